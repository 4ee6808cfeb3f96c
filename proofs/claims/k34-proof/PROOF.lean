import PyProof.Rows.All
import KE.KLam
import KE.KNestM
import PyProof.OldK
import Wide.All
import OpenK.AllK
import Wide.FinOn
import Lean
import PyProof.EqAt
import PyProof.EqKinds
import PyProof.TupleCall
import KE.KRevIter
import PyProof.Rows.SeqMore
import PyProof.Rows.ListMulArg
import PyProof.ZipIter
import PyProof.Rows.ZipGen
import PyProof.EnumMake
import PyProof.StrWalks
import PyProof.SliceStr2
import PyProof.StrBlockH
import PyProof.FString5
import PyProof.Rows.StrJoin2
import PyProof.Rows.Range3
import KE.KDictLaws
import PyProof.ConsumeWalk
import PyProof.SumWalkG
import PyProof.Rows.SeqCalls
import PyProof.Rows.SeqGen
import PyProof.Rows.MinMaxN
import PyProof.Rows.CallKwBuiltin
import PyProof.Rows.SortStr
import PyProof.StrOps2
import PyProof.Rows.StrMul
import PyProof.IsRules
import PyProof.Rows.SetFrom
import PyProof.CollectStr
import PyProof.Rows.SortRuns
import PyProof.Rows.SortKey
import KE.KSortTup
import PyProof.StrOps
import PyProof.ToksMono
import PyProof.StrLawsIn
import PyProof.StrLawsReplace
import PySem.Challenge.RW_nailhang_k34_meeting_twice
set_option Elab.async false
set_option linter.all false
set_option maxRecDepth 100000
set_option maxHeartbeats 4000000
local macro_rules | `(tactic|omega) => `(tactic|lia)
noncomputable section
theorem Z0{α β:Type}(a:α)(f:α→Option β):(some a).bind f=f a:=rfl
theorem Z1{α β:Type}{x:α}{f:α→β}:(some x).map f=some (f x):=rfl
theorem Z2{α:Type}{a:α}{l:List α}:(a::l)[0]? =some a:=rfl
theorem Z3{α:Type}{a:α}{l:List α}{i}:(a::l)[i+1]? =l[i]? :=rfl
theorem Z4{α:Type}{a:α}{l:List α}:(a::l).length=l.length+1:=rfl
theorem Z5{α:Type}:([]:List α).length=0:=rfl
theorem Z6{α:Type}{a b:α}{l:List α}:(a::l).set 0 b=b::l:=rfl
theorem Z7{α:Type}{a b:α}{l:List α}{n}:(a::l).set (n+1) b=a::l.set n b:=rfl
theorem Z8{α:Type}{l:List α}:[]++l=l:=rfl
theorem Z9{α:Type}{a:α}{l m:List α}:a::l++m=a::(l++m):=rfl
def ca:=@And.intro _ _ @Bool.false_and <|And.intro @Bool.false_eq_true <|And.intro @if_true.{1} <|And.intro @if_false.{1} <|And.intro @Nat.zero_add <|And.intro @Bool.not_false <|And.intro @Bool.and_true <|And.intro @decide_true <|And.intro @decide_false <|And.intro @Bool.true_or <|And.intro @Bool.true_and @Bool.not_true
def Za:=@Option.bind_eq_some_iff
def dI:=@PySem.Heap.get?_push_of_some
def Zab:=@Option.map_eq_some_iff
def dv:=@List.length_map
def fD:=@List.mem_cons_of_mem
def c9:=@List.map_cons
def Zaf:=@List.mem_singleton
def f_:=@List.mem_cons_self
def gE:=@PySem.Heap.get?_push_size
def iD:=@List.mem_append_right
def dw:=@Nat.le_refl
def eB:=@PySem.Heap.lt_size
def eT:=@Nat.ne_of_lt
def i7:=@Nat.lt_of_lt_of_le
def jE:=@List.size_toArray
def Zao:=@List.mem_append
def Zap:=@List.mem_cons
def pS:=@List.getElem?_eq_getElem
def gG:=@Nat.le_trans
def lA:=@List.append_assoc
def lB:=@Nat.le_add_right
def g7:=@Nat.le_of_lt
def mQ:=@Bool.false_ne_true
def n3:=@Array.toList_append
def pT:=@Array.length_toList
def n_:=@Nat.lt_succ_of_lt
def ug:=@Nat.add_sub_cancel_left
def Zb:=@List.getElem?_append_right
def Zba:=@List.nodup_append
def qT:=@List.getElem?_map
def pW:=@Bool.and_eq_true
def sm:=@Nat.lt_of_le_of_lt
def lU:=@List.map_nil
open PySem.W (instObj tabObj methodObj Frag nsIn lookIn emptyDict kia_one kitx_list kitx_dict keepIn callWith_K cellsFrom_some fnOf codeIn mg_of mg_none_of OpenLaw codeHdIn)
local macro_rules | `(tactic|and_intros)=>`(tactic|exact⟨rfl,rfl,rfl,by decide+kernel,rfl,by decide+kernel,by decide+kernel⟩)
namespace L2
open PySem PySem.Spec PyProof.Rows
abbrev cU:=Sum Int Str
def yi:cU→Value→Bool
 |.inl k,v=>Value.isInt k v
 |.inr x,v=>Value.isStrOf x v
def B5(w:World):cU→Int
 |.inl k=>hashInt k
 |.inr x=>hashStr w x
theorem bR:∀{k:cU} {v:Value},yi k v=true→(∃i t,k=Sum.inl i∧v=Value.int i t)∨(∃x t,k=Sum.inr x∧v=Value.str x t)
 |.inl i,v,h=>by
  obtain⟨t,e⟩:=Value.isInt_shape (k:=i) (v:=v) h
  exact .inl ⟨i,t,rfl,e⟩
 |.inr x,v,h=>by
  obtain⟨t,e⟩:=Value.isStrOf_shape (x:=x) (v:=v) h
  exact .inr ⟨x,t,rfl,e⟩
theorem yN(a b:Int):decide ((Sum.inl a:cU)=Sum.inl b)=(a == b):=by
 by_cases e:a=b
 ·subst e;simp
 ·have h:¬(Sum.inl a:cU)=Sum.inl b:=fun q=>e (Sum.inl.inj q)
  rw[decide_eq_false h]
  exact(beq_eq_false_iff_ne.mpr e).symm
theorem yO(a b:Str):decide ((Sum.inr a:cU)=Sum.inr b)=decide (a=b):=by
 by_cases e:a=b
 ·subst e;simp
 ·have h:¬(Sum.inr a:cU)=Sum.inr b:=fun q=>e (Sum.inr.inj q)
  rw[decide_eq_false h,decide_eq_false e]
theorem yP(a:Int)(b:Str):decide ((Sum.inl a:cU)=Sum.inr b)=false:=decide_eq_false (fun q=>nomatch q)
theorem yQ(a:Str)(b:Int):decide ((Sum.inr a:cU)=Sum.inl b)=false:=decide_eq_false (fun q=>nomatch q)
def j4(prog:Program)(w:World):PySem.KeyKind prog w cU where
 is:=yi
 hash:=B5 w
 inj:=fun v a b ha hb=>by
  rcases bR ha with⟨i,t,rfl,rfl⟩ |⟨x,t,rfl,rfl⟩
  ·rcases bR hb with⟨j,u,rfl,e⟩ |⟨y,u,rfl,e⟩
   ·injection e with e1 _;rw[e1]
   ·exact nomatch e
  ·rcases bR hb with⟨j,u,rfl,e⟩ |⟨y,u,rfl,e⟩
   ·exact nomatch e
   ·injection e with e1 _;rw[e1]
 byValue:=fun k v h=>by
  rcases bR h with⟨i,t,rfl,rfl⟩ |⟨x,t,rfl,rfl⟩ <;> rfl
 pyHash:=fun hv h=>by
  rcases bR hv with⟨i,t,rfl,rfl⟩ |⟨x,t,rfl,rfl⟩
  ·exact wpAny_pyHash_int h
  ·exact wpAny_pyHash_str h
 eqBool:=fun hu hv h=>by
  rcases bR hu with⟨i,t,rfl,rfl⟩ |⟨x,t,rfl,rfl⟩
  ·rcases bR hv with⟨j,u,rfl,rfl⟩ |⟨y,u,rfl,rfl⟩
   ·rw[yN]at h;exact wpAny_eqBool_int h
   ·rw[yP]at h;exact SeqAt.EqAt.int_str i t y u _ _ _ _ h
  ·rcases bR hv with⟨j,u,rfl,rfl⟩ |⟨y,u,rfl,rfl⟩
   ·rw[yQ]at h;exact SeqAt.EqAt.str_int x t j u _ _ _ _ h
   ·rw[yO]at h;exact wpAny_eqBool_str h
 «strs»:=fun k x t v h=>by
  rcases bR h with⟨i,u,rfl,e⟩ |⟨y,u,rfl,e⟩
  ·exact nomatch e
  ·injection e with e1 _
   subst e1
   cases v <;> rfl
end L2
namespace L2
open PySem PySem.Spec PyProof.Rows
inductive V where
 |non |bl (b:Bool) |int (i:Int) |str (x:Str) |byt (b:Array UInt8) |flt (b:UInt64) |ref (a:Addr) |ty (n:String)
 deriving DecidableEq
def RelV:V→Value→Prop
 |.non,u=>u=Value.none
 |.bl b,u=>u=Value.bool b
 |.int i,u=>∃t,u=Value.int i t
 |.str x,u=>∃t,u=Value.str x t
 |.byt b,u=>∃t,u=Value.bytes b t
 |.flt b,u=>∃t,u=Value.float b t
 |.ref a,u=>u=Value.ref a
 |.ty n,u=>u=Value.type n
abbrev Vals:List V→List Value→Prop:=Paired RelV
theorem Vals.length{xs:List V}{us:List Value}(r:Vals xs us):xs.length=us.length:=Paired.length r
theorem Vals.get:∀{xs:List V} {us:List Value} {i:Nat} {x:V},Vals xs us→xs[i]? =some x→∃u,us[i]? =some u∧RelV x u
 |_,_,_,_,.nil,e=>by simp at e
 |_,_,0,_,.cons r _,e=>by simp at e;subst e;exact⟨_,rfl,r⟩
 |_,_,i+1,x,.cons _ t,e=>by
  obtain⟨u,h1,h2⟩:=Vals.get (i:=i) (x:=x) t (by simpa using e)
  exact⟨u,by simpa using h1,h2⟩
theorem Vals.set{x:V}{u:Value}(r:RelV x u):∀{xs:List V} {us:List Value} (i:Nat),Vals xs us→Vals (xs.set i x) (us.set i u)
 |_,_,_,.nil=>.nil
 |_,_,0,.cons _ t=>.cons r t
 |_,_,i+1,.cons q t=>.cons q (Vals.set r i t)
theorem Vals.append:∀{xs ys:List V} {us ws:List Value},Vals xs us→Vals ys ws→Vals (xs++ys) (us++ws)
 |_,_,_,_,.nil,s=>s
 |_,_,_,_,.cons r t,s=>.cons r (Vals.append t s)
theorem Vals.take:∀{xs:List V} {us:List Value} (n:Nat),Vals xs us→Vals (xs.take n) (us.take n)
 |_,_,0,_=>.nil
 |_,_,_+1,.nil=>.nil
 |_,_,n+1,.cons r t=>.cons r (Vals.take n t)
theorem Vals.drop:∀{xs:List V} {us:List Value} (n:Nat),Vals xs us→Vals (xs.drop n) (us.drop n)
 |_,_,0,r=>r
 |_,_,_+1,.nil=>.nil
 |_,_,n+1,.cons _ t=>Vals.drop n t
def RelO:Option V→Option Value→Prop
 |some v,some u=>RelV v u
 |none,none=>True
 |_,_=>False
def KV{κ:Type}:List (κ×V)→List (κ×Value)→Prop:=Paired fun(p:κ×V) (q:κ×Value)=>p.1=q.1∧RelV p.2 q.2
def kV:cU→V
 |.inl i=>.int i
 |.inr x=>.str x
inductive HO where
 /-- a list -/
 |lst (xs:List V)
 /-- a tuple (never changes) -/
 |tup (xs:List V)
 /-- a dict whose keys are ints and texts;one whose keys are tuples of ints and texts (the empty one is both) -/
 |dK (kvs:List (cU×V)) |dT (kvs:List (List cU×V))
 /-- a set of ints:its members,its size -/
 |set (S:Int→Bool) (n:Nat)
 /-- an instance of the class at C,its dict at dx,its attributes -/
 |ins (C dx:Addr) (fs:List (Str×V))
 /-- the dict of the instance at x -/
 |own (x:Addr)
 /-- the dict of an exception -/
 |xd (fs:List (Str×V))
 /-- a bound method,f of x -/
 |met (f x:Addr)
 /-- a range object lo,lo+1,.. below hi -/
 |rng (lo hi:Int)
 /-- a thing that is known to the object (the script;a dict while a mR walks it):read,never written while it is so -/
 |frz (o:Obj) (u:HO)
 /-- a code object's table -/
 |tbl (q:Str)
 /-- any other thing,by what is true of its one object (a def of one's own:SetO a S n:=HO.ext fun h=> ..) -/
 |ext (φ:Heap→Prop)
abbrev Hp:=Addr→Option HO
def upd(H:Hp)(a:Addr)(o:HO):Hp:=fun b=>if b=a then some o else H b
theorem bF{H:Hp}{a:Addr}{o:HO}:upd H a o a=some o:=by unfold upd;rw[if_pos rfl]
theorem aD{H:Hp}{a b:Addr}{o:HO}(h:b≠a):upd H a o b=H b:=by unfold upd;rw[if_neg h]
theorem yj{H:Hp}{a b:Addr}{o u:HO}(h:H a=some o)(h':H b=some u)(d:o≠u):a≠b:=by
 intro e;subst e;rw[h]at h';exact d (Option.some.inj h')
theorem a9{H:Hp}{a b:Addr}{o:HO}(h:H a=some o)(h':H b=none):a≠b:=by
 intro e;subst e;rw[h]at h';cases h'
section
variable (P:Program) (w:World)
def ObjOk(H:Hp)(h:Heap)(a:Addr):HO→Prop
 |.lst xs=>xs.length≤sizeLine∧∃(its:List Value) (n:Nat),Vals xs its∧h.get? a=some {cls:=.type "list",data:=.seq its.toArray n}
 |.tup xs=>xs.length≤sizeLine∧∃its:List Value,Vals xs its∧IsTup h a its.toArray
 |.dK kvs=>kvs.length≤sizeLine∧(a == sysModules)=false∧∃vs,KV kvs vs∧h.DictOf (j4 P w) a vs
 |.dT kvs=>kvs.length≤sizeLine∧(a == sysModules)=false∧∃xs:List (List cU×Addr×Value),
   Paired (fun(p:List cU×V) (q:List cU×Addr×Value)=>p.1=q.1∧H q.2.1=some (.tup (p.1.map kV))∧RelV p.2 q.2.2) kvs xs∧
   ∃o es ep,h.get? a=some o∧o.ExactDict∧o.data=.dict es ep∧es.toList=xs.map (entryOfKey (tupleKind (j4 P w)))∧(xs.map (·.1)).Nodup
 |.set S n=>h.SetOf (intKind P w) a S n
 |.ins C dx fs=>H dx=some (.own a)∧fs.length≤1000∧dx≠a∧h.get? a=some (instObj C dx)∧
   ∃mA,h.Ns1 dx mA∧(∀f,RelO (fs.lookup f) (mA f))∧PySem.Within mA (fs.map (·.1))
 |.own _=>∃o,h.get? a=some o
 |.xd fs=>∃mA,h.Ns1 a mA∧∀f,RelO (fs.lookup f) (mA f)
 |.rng lo hi=>∃t u v,h.get? a=some {cls:=.type "range",data:=.fields #[.int lo t,.int hi u,.int 1 v]}
 |.frz o u=>h.get? a=some o∧ObjOk H h a u
 |.tbl q=>∃ps:Array Value,h.get? a=some (tabObj ps)∧TriplesOk ps.toList∧∀pos cv,codeAmong pos ps.toList=some cv→∃c,cv=Value.ref c∧H c=some (.own a)∧h.CodeRec cv q
 |.met f x=>h.get? a=some (methodObj (.ref f) (.ref x))
 |.ext φ=>φ h∧(∃o,h.get? a=some o)∧∀h1 h2:Heap,φ h1→(∀o,h1.get? a=some o→h2.get? a=some o)→φ h2
def HOk(H:Hp)(h:Heap):Prop:=∀a o,H a=some o→ObjOk P w H h a o
end
section
variable {P:Program} {w:World} {H H':Hp} {h h':Heap} {a:Addr} {o:HO}
theorem ObjOk.lt(x:ObjOk P w H h a o):a < h.objs.size:=by
 cases o with
 |lst xs=>obtain⟨_,_,_,_,e⟩:=x;exact eB e
 |tup xs=>obtain⟨_,_,_,p⟩:=x;exact p.lt
 |dK kvs=>obtain⟨_,_,_,_,o,_,_,e,_⟩:=x;exact eB e
 |dT kvs=>obtain⟨_,_,_,_,o,_,_,e,_⟩:=x;exact eB e
 |set S n=>obtain⟨o,_,_,_,e,_⟩:=x;exact eB e
 |ins C dx fs=>obtain⟨_,_,_,e,_⟩:=x;exact eB e
 |own y=>obtain⟨_,e⟩:=x;exact eB e
 |xd fs=>obtain⟨_,⟨_,_,_,e,_⟩,_⟩:=x;exact eB e
 |rng lo hi=>obtain⟨_,_,_,e⟩:=x;exact eB e
 |frz ob u=>obtain⟨e,_⟩:=x;exact eB e
 |tbl q=>obtain⟨_,e,_⟩:=x;exact eB e
 |met f y=>exact eB (show h.get? a=some _ from x)
 |ext φ=>obtain⟨_,⟨_,e⟩,_⟩:=x;exact eB e
theorem Paired.mapP{α β:Type}{F G:α→β→Prop}{l₁:List α}{l₂:List β}(h:Paired F l₁ l₂)(f:∀a b,F a b→G a b):Paired G l₁ l₂:=by
 induction h with
 |nil=>exact .nil
 |cons r _ t=>exact .cons (f _ _ r) t
theorem ObjOk.stay(x:ObjOk P w H h a o)(k:∀b u,(b=a∨H b=some (.own a))→h.get? b=some u→h'.get? b=some u)
  (ho:∀b,H b=some (.own a)→H' b=some (.own a)) (ht:∀b xs,H b=some (.tup xs)→H' b=some (.tup xs)):ObjOk P w H' h' a o:=by
 induction o with
 |lst xs=>obtain⟨z,its,n,r,e⟩:=x;exact⟨z,its,n,r,k _ _ (.inl rfl) e⟩
 |tup xs=>obtain⟨z,its,r,ob,e,c⟩:=x;exact⟨z,its,r,ob,k _ _ (.inl rfl) e,c⟩
 |dK kvs=>obtain⟨z,y,vs,r,ob,es,ep,e,c⟩:=x;exact⟨z,y,vs,r,ob,es,ep,k _ _ (.inl rfl) e,c⟩
 |dT kvs=>
  obtain⟨z,y,xs,r,ob,es,ep,e,c⟩:=x
  exact⟨z,y,xs,Paired.mapP r fun p q z=>⟨z.1,ht _ _ z.2.1,z.2.2⟩,ob,es,ep,k _ _ (.inl rfl) e,c⟩
 |set S n=>obtain⟨ob,es,ep,t,e,c⟩:=x;exact⟨ob,es,ep,t,k _ _ (.inl rfl) e,c⟩
 |ins C dx fs=>
  obtain⟨d,z,ne,e,mA,⟨od,es,ep,e2,c⟩,r⟩:=x
  exact⟨ho _ d,z,ne,k _ _ (.inl rfl) e,mA,⟨od,es,ep,k _ _ (.inr d) e2,c⟩,r⟩
 |own y=>obtain⟨ob,e⟩:=x;exact⟨ob,k _ _ (.inl rfl) e⟩
 |xd fs=>obtain⟨mA,⟨od,es,ep,e,c⟩,r⟩:=x;exact⟨mA,⟨od,es,ep,k _ _ (.inl rfl) e,c⟩,r⟩
 |rng lo hi=>obtain⟨t,u,v,e⟩:=x;exact⟨t,u,v,k _ _ (.inl rfl) e⟩
 |frz ob u ih=>obtain⟨e,q⟩:=x;exact⟨k _ _ (.inl rfl) e,ih q⟩
 |tbl q=>
  obtain⟨ps,e,t,r⟩:=x
  refine⟨ps,k _ _ (.inl rfl) e,t,fun pos cv z=>?_⟩
  obtain⟨c,ec,ho',c2,oc,vs,tq,hc,hoc,hd⟩:=r pos cv z
  subst ec
  cases hc
  exact⟨c,rfl,ho _ ho',c,oc,vs,tq,rfl,k _ _ (.inr ho') hoc,hd⟩
 |met f y=>
  have e:h.get? a=some (methodObj (.ref f) (.ref y)):=x
  show h'.get? a=some (methodObj (.ref f) (.ref y))
  exact k a _ (.inl rfl) e
 |ext φ=>obtain⟨p,⟨o,e⟩,st⟩:=x;exact⟨st _ _ p fun o q=>k _ _ (.inl rfl) q,⟨o,k _ _ (.inl rfl) e⟩,st⟩
theorem HOk.lt(x:HOk P w H h)(e:H a=some o):a < h.objs.size:=(x a o e).lt
theorem HOk.fresh(x:HOk P w H h)(e:h.objs.size≤a):H a=none:=by
 cases q:H a with
 |none=>rfl
 |some u=>exact absurd (i7 (x.lt q) e) (Nat.lt_irrefl _)
theorem HOk.kept(x:HOk P w H h)(k:∀b u,h.get? b=some u→h'.get? b=some u):HOk P w H h':=fun a o e=>
 (x a o e).stay (fun b u _ q=>k b u q) (fun _ q=>q) fun _ _ q=>q
theorem HOk.laid(x:HOk P w H h)(k:∀b u,h.get? b=some u→h'.get? b=some u)(hp:h.objs.size≤a)(new:ObjOk P w (upd H a o) h' a o):HOk P w (upd H a o) h':=fun b u e=>by
 have hn:=x.fresh hp
 by_cases hb:b=a
 ·subst hb;rw[bF]at e;cases e;exact new
 ·rw[aD hb]at e
  exact(x b u e).stay (fun c v _ q=>k c v q) (fun c q=>by rw[aD (a9 q hn)];exact q) fun c xs q=>by rw[aD (a9 q hn)];exact q
end
def Rd(H:Hp)(a:Addr)(u:HO):Prop:=H a=some u∨∃o,H a=some (.frz o u)
theorem Rd.of{H:Hp}{a:Addr}{u:HO}(h:H a=some u):Rd H a u:=.inl h
theorem Rd.ok{P:Program}{w:World}{H:Hp}{h:Heap}{a:Addr}{u:HO}(r:Rd H a u)(x:HOk P w H h):ObjOk P w H h a u:=by
 rcases r with r |⟨o,r⟩
 ·exact x a u r
 ·obtain⟨_,q⟩:=x a _ r
  exact q
def BX:Option HO→Prop
 |some (.lst _)=>True
 |some (.dK _)=>True
 |some (.dT _)=>True
 |some (.set _ _)=>True
 |some (.ins _ _ _)=>True
 |some (.ext _)=>True
 |_=>False
section
variable {P:Program} {w:World} {H:Hp} {h h':Heap} {x e:Addr} {o':HO}
theorem HOk.write(ok:HOk P w H h)(mu:BX (H x))(he:e=x∨H e=some (.own x))(k:∀b u,b≠e→h.get? b=some u→h'.get? b=some u)(heo:∃u,h'.get? e=some u)
  (new:ObjOk P w (upd H x o') h' x o'):HOk P w (upd H x o') h':=fun b u q=>by
 have nown:∀c y,H c=some (.own y)→c≠x:=fun c y r z=>by subst z;rw[r]at mu;exact mu
 have ntup:∀c xs,H c=some (.tup xs)→c≠x:=fun c xs r z=>by subst z;rw[r]at mu;exact mu
 by_cases hb:b=x
 ·subst hb;rw[bF]at q;cases q;exact new
 ·rw[aD hb]at q
  by_cases hbe:b=e
  ·have q':H b=some (.own x):=by
    rcases he with z |z
    ·exact absurd (hbe.trans z) hb
    ·rw[hbe];exact z
   rw[q]at q';cases q'
   obtain⟨v,hv⟩:=heo
   exact⟨v,by rw[hbe];exact hv⟩
  ·refine(ok b u q).stay (fun c v hc r=>k c v ?_ r) (fun c r=>by rw[aD (nown c b r)];exact r) fun c xs r=>by rw[aD (ntup c xs r)];exact r
   rcases hc with rfl |hc
   ·exact hbe
   ·rintro rfl
    rcases he with z |z
    ·exact nown c b hc z
    ·rw[hc]at z;cases z;exact hb rfl
end
structure Un (fs ex:List Addr) (H H':Hp) (h h':Heap):Prop where
 keep:∀b o,h.get? b=some o→H b=none→b∉fs→b∉ex→h'.get? b=some o
 slot:∀b o,h.get? b=some o→H b=none→b∈fs→b∉ex→∃sl,h'.get? b=some {o with slots:=sl}
 free:∀b o,h.get? b=some o→H b=none→b∉ex→H' b=none
 there:∀b o,h.get? b=some o→b∉ex→∃o',h'.get? b=some o'
 tups:∀b xs,H b=some (.tup xs)→H' b=some (.tup xs)
 frzs:∀b o u,H b=some (.frz o u)→H' b=some (.frz o u)
 tbls:∀b ps,H b=some (.tbl ps)→H' b=some (.tbl ps)
section
variable {fs fs' ex ex':List Addr} {H H1 H2:Hp} {h h1 h2 h':Heap} {a x e:Addr} {o:HO}
theorem Un.any(u:Un fs ex H H1 h h1){b:Addr}{ob:Obj}(q:h.get? b=some ob)(n:H b=none)(hx:b∉ex):∃sl,h1.get? b=some {ob with slots:=sl}:=by
 by_cases hb:b∈fs
 ·exact u.slot b ob q n hb hx
 ·exact⟨ob.slots,u.keep b ob q n hb hx⟩
theorem Un.trans(a:Un fs ex H H1 h h1)(b:Un fs ex H1 H2 h1 h2):Un fs ex H H2 h h2 where
 keep:=fun c ob q n hc hx=>b.keep c ob (a.keep c ob q n hc hx) (a.free c ob q n hx) hc hx
 slot:=fun c ob q n hc hx=>by
  obtain⟨sl,e1⟩:=a.slot c ob q n hc hx
  obtain⟨sl',e2⟩:=b.slot c _ e1 (a.free c ob q n hx) hc hx
  exact⟨sl',e2⟩
 free:=fun c ob q n hx=>by
  obtain⟨o',e1⟩:=a.there c ob q hx
  exact b.free c o' e1 (a.free c ob q n hx) hx
 there:=fun c ob q hx=>by
  obtain⟨o',e1⟩:=a.there c ob q hx
  exact b.there c o' e1 hx
 tups:=fun c xs q=>b.tups c xs (a.tups c xs q)
 frzs:=fun c ob xs q=>b.frzs c ob xs (a.frzs c ob xs q)
 tbls:=fun c ps q=>b.tbls c ps (a.tbls c ps q)
theorem Un.kept(k:∀b u,h.get? b=some u→h'.get? b=some u):Un fs ex H H h h':=
 ⟨fun b ob q _ _ _=>k b ob q,fun b ob q _ _ _=>⟨ob.slots,k b ob q⟩,fun _ _ _ n _=>n,fun b ob q _=>⟨ob,k b ob q⟩,fun _ _ q=>q,fun _ _ _ q=>q,fun _ _ q=>q⟩
theorem Un.refl:Un fs ex H H h h:=Un.kept fun _ _ q=>q
theorem Un.laid(k:∀b u,h.get? b=some u→h'.get? b=some u)(hp:h.objs.size≤a)(hn:H a=none):Un fs ex H (upd H a o) h h' where
 keep:=fun b u q _ _ _=>k b u q
 slot:=fun b u q _ _ _=>⟨u.slots,k b u q⟩
 free:=fun b u q n _=>by rw[aD (eT (i7 (eB q) hp))];exact n
 there:=fun b u q _=>⟨u,k b u q⟩
 tups:=fun b xs q=>by rw[aD (a9 q hn)];exact q
 frzs:=fun b u xs q=>by rw[aD (a9 q hn)];exact q
 tbls:=fun b ps q=>by rw[aD (a9 q hn)];exact q
theorem Un.write(mu:BX (H x))(he:e=x∨H e=some (.own x))(k:∀b u,b≠e→h.get? b=some u→h'.get? b=some u)(heo:∃u,h'.get? e=some u):Un fs ex H (upd H x o) h h':=by
 have hx:∀b,H b=none→b≠x:=fun b n z=>by subst z;rw[n]at mu;exact mu
 have hb:∀b,H b=none→b≠e:=fun b n z=>by
  subst z
  rcases he with r |r
  ·exact hx b n r
  ·rw[n]at r;cases r
 have hm:∀b u,H b=some u→¬BX (some u)→b≠x:=fun b u q nm z=>by subst z;rw[q]at mu;exact nm mu
 refine⟨fun b u q n _ _=>k b u (hb b n) q,fun b u q n _ _=>⟨u.slots,k b u (hb b n) q⟩,fun b u q n _=>by rw[aD (hx b n)];exact n,fun b u q _=>?_,
  fun b xs q=>by rw[aD (hm b _ q fun z=>z)];exact q,fun b u xs q=>by rw[aD (hm b _ q fun z=>z)];exact q,fun b ps q=>by rw[aD (hm b _ q fun z=>z)];exact q⟩
 by_cases hbe:b=e
 ·subst hbe;exact heo
 ·exact⟨u,k b u hbe q⟩
theorem Un.mono(u:Un fs ex H H1 h h1)(hs:∀b∈fs,b∈fs')(hx:∀b∈ex,b∈ex'):Un fs' ex' H H1 h h1:=
 ⟨fun b ob q n hb he=>u.keep b ob q n (fun z=>hb (hs b z)) fun z=>he (hx b z),fun _ _ q n _ he=>u.any q n fun z=>he (hx _ z),fun b ob q n he=>u.free b ob q n fun z=>he (hx b z),fun b ob q he=>u.there b ob q fun z=>he (hx b z),u.tups,u.frzs,u.tbls⟩
end
def BY(h:Heap)(H:Hp):List Addr:=(List.range h.objs.size).filter fun a=>(H a).isSome
def oa(h:Heap)(H:Hp):Heap:=PySem.W.hideAll h (BY h H)
theorem sq(h:Heap)(H:Hp):(oa h H).objs.size=h.objs.size:=PySem.W.hideAll_size _ _
theorem kh{h:Heap}{H:Hp}{b:Addr}{o:Obj}(e:h.get? b=some o)(n:H b=none):(oa h H).get? b=some o:=
 PySem.W.hideAll_get _ e fun hm=>by
  have q:(H b).isSome=true:=(List.mem_filter.mp hm).2
  rw[n]at q;simp at q
theorem wq{h:Heap}{H:Hp}{b:Addr}{o:Obj}(e:(oa h H).get? b=some o):h.get? b=some o∧H b=none:=by
 have e':h.get? b=some o:=PySem.W.of_hideAll (BY h H) e
 refine⟨e',?_⟩
 cases q:H b with
 |none=>rfl
 |some x=>
  have hm:b∈BY h H:=List.mem_filter.mpr ⟨List.mem_range.mpr (eB e'),by simp[q]⟩
  have z:(oa h H).get? b=none:=PySem.W.hideAll_none (BY h H) hm
  rw[z]at e;cases e
def wt(g h:Heap)(L:Addr):List (Addr×Obj):=(List.range h.objs.size).filterMap fun a=>if a=L∨(g.get? a).isSome=true then none else (h.get? a).map fun o=>(a,o)
def aA(g h:Heap)(L d:Addr):List (Addr×Obj):=(wt g h L).filter fun p=>decide (p.1≠d)
end L2
namespace L2
open PySem PySem.Spec PyProof.Rows
def uh(K:Frag):Option Addr:=match nsIn K mainGlobals "in_told_order" with
 |some (some (.ref f))=>match K.lookup f with
  |some ⟨_,_,.func fd,_⟩=>match fd.code with
   |.ref c=>match K.lookup c with
    |some ⟨_,_,.fields vs,_⟩=>match (vs[11]? :Option Value)with
     |some (.ref P)=>some P
     |_=>none
    |_=>none
   |_=>none
  |_=>none
 |_=>none
def jS(K:Frag)(b:Addr):Option Str:=if uh K=some b then some (Str.ofString "in_told_order.<locals>.<lambda>")else none
structure Mod (K:Frag) (mg:Str→Option Value) (base:Heap):Prop where
 kin:K.In base
 glob:base.Ns mainGlobals mg
 blt:∃mb,base.Ns builtinsNs mb∧∀x:Str,x≠"__name__"→mb x=bootBuiltins x
 nolimit:base.NoLimit
 bmain:∃bm ob,mg "__builtins__"=some (.ref bm)∧bm≠builtinsNs∧base.get? bm=some ob∧ob.cls=.type "module"∧ob.dict=some builtinsNs∧ob.data=.plain
structure Cx where
 prog:Program
 w:World
 K:Frag
 mg:Str→Option Value
 base:Heap
 A:Around
 N:List Str
 s₀:Shared
 H₀:Hp
 env:Env
 outer:List Env
 stack:List Env
 ex:List Addr
 fn:Str→Bool
 calm:Bool
 pn:List (Addr×Obj)
 xe:Value→Shared→Prop
def sr(l:List Env):List Addr:=l.filterMap (·.frame)
abbrev Cx.fs(X:Cx):List Addr:=sr X.outer
def wu(sc:Scope)(x:Str):Prop:=sc.names.lookup x=some .local∨sc.names.lookup x=some .cell∨sc.names.lookup x=some .free
def yR(sc:Scope)(x:Str):Prop:=sc.names.lookup x=some .local∨sc.names.lookup x=some .cell
def B6(env:Env)(h:Heap)(m:Str→Option Value)(x:Str)(u:Value):Prop:=
 (env.kindOf x=some .local∧m x=some u)∨((env.kindOf x=some .cell∨env.kindOf x=some .free)∧∃c,env.cells.lookup x=some c∧h.IsCell c (some u))
structure Cx.Ok (X:Cx):Prop where
 mod:Mod X.K X.mg X.base
 kind:X.env.scope.kind=.function
 glob:X.env.globals=mainGlobals
 blt:X.env.builtins=builtinsNs
 above:X.s₀.heap.objs.size≤X.env.locals
 inj:∀x y c,X.env.cells.lookup x=some c→X.env.cells.lookup y=some c→x=y
 has:∀x,(X.env.kindOf x=some .cell∨X.env.kindOf x=some .free)→∃c,X.env.cells.lookup x=some c
 cab:∀x c,X.fn x=true→X.env.cells.lookup x=some c→X.s₀.heap.objs.size≤c
 hd:X.calm=true→X.A.handled=none
 frames:X.A.frames=some X.stack
 stk:X.stack=X.outer∨(X.stack=X.env::X.outer∧X.env.frame=some X.env.locals)
 exf:∀b∈X.ex,b≠X.env.locals∧∀x c,X.env.cells.lookup x=some c→c≠b
 bs:∀b o,X.base.get? b=some o→X.s₀.heap.get? b=some o∧X.H₀ b=none
 bsz:X.base.objs.size≤X.s₀.heap.objs.size
 noex:∀b o,X.base.get? b=some o→b∉X.ex
 exfs:∀b∈X.ex,b∉X.fs
 funs:X.s₀.heap.FunFrames X.base X.outer
 frf:∀b∈X.fs,X.H₀ b=none
 tab:∀b q,jS X.K b=some q→X.H₀ b=some (.tbl q)
structure Inv (X:Cx) (pins:List (Addr×Obj)) (σ:List (Option V)) (H:Hp) (s:Shared):Prop where
 ok:X.Ok
 os:s.os=X.s₀.os
 bare:AllBare s.gens
 base:Un X.fs X.ex X.H₀ H X.s₀.heap s.heap
 loc:∃m,s.heap.Ns X.env.locals m∧∀(i:Nat) (x:Str) (v:V),X.N[i]? =some x→σ[i]? =some (some v)→wu X.env.scope x→∃u,RelV v u∧B6 X.env s.heap m x u
 cell:∀x c,X.env.cells.lookup x=some c→∃v,s.heap.IsCell c v
 free:H X.env.locals=none
 freeC:∀x c,X.env.cells.lookup x=some c→H c=none
 pin:∀p∈X.pn++pins,s.heap.get? p.1=some p.2∧H p.1=none∧p.1≠X.env.locals∧p.1∉X.fs∧∀v,p.2.data≠ .cell v
 hok:HOk X.prog X.w H s.heap
 len:σ.length=X.N.length
section
variable {X:Cx} {pins:List (Addr×Obj)} {σ:List (Option V)} {H H':Hp} {s:Shared} {h':Heap}
theorem Cx.Ok.nofr(ok:X.Ok){b:Addr}{o:Obj}(e:X.base.get? b=some o):b∉X.fs:=fun hb=>by
 have:=(ok.funs.mem hb).1
 rw[e]at this;cases this
theorem Inv.bs(I:Inv X pins σ H s):∀b o,X.base.get? b=some o→s.heap.get? b=some o∧H b=none:=fun b o e=>
 ⟨I.base.keep b o (I.ok.bs b o e).1 (I.ok.bs b o e).2 (I.ok.nofr e) (I.ok.noex b o e),I.base.free b o (I.ok.bs b o e).1 (I.ok.bs b o e).2 (I.ok.noex b o e)⟩
theorem Inv.bk(I:Inv X pins σ H s):∀b o,X.base.get? b=some o→s.heap.get? b=some o:=fun b o e=>(I.bs b o e).1
theorem Inv.mod(I:Inv X pins σ H s):Mod X.K X.mg X.base:=I.ok.mod
theorem Inv.tab(I:Inv X pins σ H s):∀b q,jS X.K b=some q→H b=some (.tbl q):=fun b q e=>I.base.tbls b q (I.ok.tab b q e)
theorem Inv.kIn(I:Inv X pins σ H s):X.K.In s.heap:=I.ok.mod.kin.keeps I.bk
theorem Inv.nolimit(I:Inv X pins σ H s):s.heap.NoLimit:=I.ok.mod.nolimit.keeps I.bk
theorem Inv.fr(I:Inv X pins σ H s):∃m,Fr X.base X.env.locals s.heap m:=
 let ⟨m,hn,_⟩:=I.loc
 ⟨m,hn,I.bk,gG I.ok.bsz I.ok.above⟩
theorem Inv.lt(I:Inv X pins σ H s):X.env.locals < s.heap.objs.size:=let ⟨_,hn,_⟩:=I.loc;hn.lt
theorem Inv.sz(I:Inv X pins σ H s):X.s₀.heap.objs.size≤s.heap.objs.size:=gG I.ok.above (g7 I.lt)
theorem Inv.nofs(I:Inv X pins σ H s){a:Addr}(h:s.heap.objs.size≤a):a∉X.fs:=fun hb=>by
 obtain⟨_,o,ho,_⟩:=I.ok.funs.mem hb
 exact absurd (i7 (eB ho) (gG I.sz h)) (Nat.lt_irrefl _)
theorem Inv.cne(I:Inv X pins σ H s):∀x c,X.env.cells.lookup x=some c→c≠X.env.locals:=fun x c e z=>by
 obtain⟨v,o,ho,hd⟩:=I.cell x c e
 obtain⟨m,⟨o',es,ep,ho',hd',_⟩,_⟩:=I.loc
 rw[z,ho']at ho;cases ho;rw[hd']at hd;cases hd
theorem Inv.funs(I:Inv X pins σ H s):s.heap.FunFrames X.base X.outer:=by
 have all:∀(l:List Env),(∀b∈sr l,b∈X.fs)→X.s₀.heap.FunFrames X.base l→s.heap.FunFrames X.base l:=by
  intro l
  induction l with
  |nil=>intro _ _;trivial
  |cons env r ih=>
   intro hs hl
   obtain⟨hk,⟨L,o,hf,hn,ho,hd⟩,hr⟩:=hl
   have hL:L∈X.fs:=hs L (by unfold sr;rw[List.filterMap_cons,hf];exact f_)
   obtain⟨sl,e⟩:=I.base.slot L o ho (I.ok.frf L hL) hL fun z=>I.ok.exfs L z hL
   exact⟨hk,⟨L,_,hf,hn,e,hd⟩,ih (fun b hb=>hs b (by unfold sr;rw[List.filterMap_cons,hf];exact fD _ hb)) hr⟩
 exact all X.outer (fun _ hb=>hb) I.ok.funs
theorem Inv.stack(I:Inv X pins σ H s):s.heap.FunFrames X.base X.stack:=by
 rcases I.ok.stk with e |⟨e,hf⟩
 ·rw[e];exact I.funs
 ·rw[e]
  obtain⟨m,hn,_⟩:=I.loc
  refine .cons (by rw[I.ok.kind];decide) hf hn ?_ I.funs
  exact Heap.get?_none_of_le (gG I.ok.bsz I.ok.above)
theorem Inv.stkSub(I:Inv X pins σ H s):∀b∈sr X.stack,b∈X.env.locals::X.fs:=fun b hb=>by
 rcases I.ok.stk with e |⟨e,hf⟩
 ·rw[e]at hb;exact fD _ hb
 ·rw[e]at hb
  unfold sr at hb
  rw[List.filterMap_cons,hf]at hb
  exact hb
theorem Inv.stkFree(I:Inv X pins σ H s):∀b∈sr X.stack,H b=none:=fun b hb=>by
 rcases Zap.mp (I.stkSub b hb)with e |hb
 ·rw[e];exact I.free
 ·obtain⟨_,o,ho,_⟩:=I.ok.funs.mem hb
  exact I.base.free b o ho (I.ok.frf b hb) fun z=>I.ok.exfs b z hb
theorem Inv.step{g':Array GenState}{t':Nat}{d':Drawn}{ch:List Addr}(I:Inv X pins σ H s)
  (hch:∀b∈ch,(b∈X.ex∨X.s₀.heap.objs.size≤b)∧b≠X.env.locals∧(∀x c,X.env.cells.lookup x=some c→c≠b)∧∀p∈X.pn++pins,p.1≠b)
  (keep:∀b o,b≠X.env.locals→b∉X.fs→b∉ch→s.heap.get? b=some o→H b=none→h'.get? b=some o)
  (slot:∀b o,b≠X.env.locals→b∈X.fs→b∉ch→s.heap.get? b=some o→H b=none→∃sl,h'.get? b=some {o with slots:=sl}) (free:∀b o,b∉ch→s.heap.get? b=some o→H b=none→H' b=none)
  (there:∀b o,b∉ch→s.heap.get? b=some o→∃o',h'.get? b=some o')
  (tups:∀b xs,H b=some (.tup xs)→H' b=some (.tup xs)) (frzs:∀b o u,H b=some (.frz o u)→H' b=some (.frz o u)) (tbls:∀b ps,H b=some (.tbl ps)→H' b=some (.tbl ps))
  (ns:∀m,s.heap.Ns X.env.locals m→h'.Ns X.env.locals m) (hok:HOk X.prog X.w H' h') (hg:AllBare g'):
  Inv X pins σ H' {s with heap:=h',gens:=g',drawn:=d',toks:=t'}:=by
 have neL:∀b o,X.s₀.heap.get? b=some o→b≠X.env.locals:=fun b o e=>eT (i7 (eB e) I.ok.above)
 have neC:∀b o,X.s₀.heap.get? b=some o→b∉X.ex→b∉ch:=fun b o e hx hb=>by
  rcases(hch b hb).1 with z |z
  ·exact hx z
  ·exact absurd (i7 (eB e) z) (Nat.lt_irrefl _)
 have cellK:∀x c,X.env.cells.lookup x=some c→∀v,s.heap.IsCell c v→h'.IsCell c v:=fun x c e v ⟨o,ho,hd⟩=>by
  have nch:c∉ch:=fun z=>(hch c z).2.2.1 x c e rfl
  by_cases hc:c∈X.fs
  ·obtain⟨sl,q⟩:=slot c o (I.cne x c e) hc nch ho (I.freeC x c e)
   exact⟨_,q,hd⟩
  ·exact⟨o,keep c o (I.cne x c e) hc nch ho (I.freeC x c e),hd⟩
 refine⟨I.ok,I.os,hg,⟨fun b o e n hb hx=>?_,fun b o e n hb hx=>?_,fun b o e n hx=>?_,fun b o e hx=>?_,fun b xs e=>tups b xs (I.base.tups b xs e),fun b o xs e=>frzs b o xs (I.base.frzs b o xs e),fun b ps e=>?_⟩,?_,fun x c e=>?_,?_,fun x c e=>?_,fun p hp=>?_,hok,I.len⟩
 ·exact keep b o (neL b o e) hb (neC b o e hx) (I.base.keep b o e n hb hx) (I.base.free b o e n hx)
 ·obtain⟨sl,e1⟩:=I.base.slot b o e n hb hx
  obtain⟨sl',e2⟩:=slot b _ (neL b o e) hb (neC b o e hx) e1 (I.base.free b o e n hx)
  exact⟨sl',e2⟩
 ·obtain⟨o',e1⟩:=I.base.there b o e hx
  exact free b o' (neC b o e hx) e1 (I.base.free b o e n hx)
 ·obtain⟨o',e1⟩:=I.base.there b o e hx
  exact there b o' (neC b o e hx) e1
 ·exact tbls b _ (I.base.tbls b ps e)
 ·obtain⟨m,hn,hl⟩:=I.loc
  refine⟨m,ns m hn,fun i x v e1 e2 e3=>?_⟩
  obtain⟨u,r,l⟩:=hl i x v e1 e2 e3
  refine⟨u,r,?_⟩
  rcases l with l |⟨k,c,e,z⟩
  ·exact .inl l
  ·exact .inr ⟨k,c,e,cellK x c e _ z⟩
 ·obtain⟨v,z⟩:=I.cell x c e
  exact⟨v,cellK x c e v z⟩
 ·obtain⟨m,⟨o,_,_,ho,_⟩,_⟩:=I.loc
  exact free _ o (fun z=>(hch _ z).2.1 rfl) ho I.free
 ·obtain⟨v,o,ho,hd⟩:=I.cell x c e
  exact free c o (fun z=>(hch c z).2.2.1 x c e rfl) ho (I.freeC x c e)
 ·obtain⟨e,n,ne,nf,d⟩:=I.pin p hp
  have nch:p.1∉ch:=fun z=>(hch p.1 z).2.2.2 p hp rfl
  exact⟨keep p.1 p.2 ne nf nch e n,free p.1 p.2 nch e n,ne,nf,d⟩
theorem Inv.un{t':Nat}(I:Inv X pins σ H s)(u:Un X.fs [] H H' s.heap h')(hok:HOk X.prog X.w H' h'):Inv X pins σ H' {s with heap:=h',toks:=t'}:=by
 obtain⟨m,⟨o,es,ep,ho,r⟩,_⟩:=id I.loc
 obtain⟨sl,hL⟩:=u.any ho I.free (by simp)
 exact I.step (g':=s.gens) (d':=s.drawn) (ch:=[]) (fun _ z=>nomatch z) (fun b o _ hb _ e n=>u.keep b o e n hb (by simp)) (fun b o _ hb _ e n=>u.slot b o e n hb (by simp)) (fun b o _ e n=>u.free b o e n (by simp)) (fun b o _ e=>u.there b o e (by simp)) u.tups u.frzs u.tbls (fun m' hm=>by
  obtain⟨o',es',ep',ho',r'⟩:=hm
  rw[ho]at ho';cases ho'
  exact⟨_,es',ep',hL,r'⟩) hok I.bare
theorem Inv.call{g':Array GenState}{t':Nat}{d':Drawn}{ch:List Addr}(I:Inv X pins σ H s)(u:Un (sr X.stack) ch H H' s.heap h')(hok:HOk X.prog X.w H' h')(hg:AllBare g')
  (hch:∀b∈ch,(b∈X.ex∨X.s₀.heap.objs.size≤b)∧b≠X.env.locals∧(∀x c,X.env.cells.lookup x=some c→c≠b)∧∀p∈X.pn++pins,p.1≠b):
  Inv X pins σ H' {s with heap:=h',gens:=g',drawn:=d',toks:=t'}:=by
 obtain⟨m,⟨o,es,ep,ho,r⟩,_⟩:=id I.loc
 obtain⟨sl,hL⟩:=u.any ho I.free fun z=>(hch _ z).2.1 rfl
 exact I.step (ch:=ch) hch (fun b o hL hb hc e n=>u.keep b o e n (fun z=>(Zap.mp (I.stkSub b z)).elim hL hb) hc) (fun b o _ _ hc e n=>u.any e n hc) (fun b o hc e n=>u.free b o e n hc) (fun b o hc e=>u.there b o e hc) u.tups u.frzs u.tbls (fun m' hm=>by
  obtain⟨o',es',ep',ho',r'⟩:=hm
  rw[ho]at ho';cases ho'
  exact⟨_,es',ep',hL,r'⟩) hok hg
theorem Inv.turned{t':Nat}{it:Addr}(I:Inv X pins σ H s)(k:∀b o,b≠it→s.heap.get? b=some o→h'.get? b=some o)(hn:H it=none)(hL:it≠X.env.locals)
  (h1:it∈X.ex∨X.s₀.heap.objs.size≤it) (h2:∀x c,X.env.cells.lookup x=some c→c≠it) (h3:∀p∈X.pn++pins,p.1≠it):Inv X pins σ H {s with heap:=h',toks:=t'}:=by
 have nit:∀b u,H b=some u→b≠it:=fun b u e z=>by rw[z,hn]at e;cases e
 refine I.step (g':=s.gens) (d':=s.drawn) (ch:=[it]) (fun b hb=>?_) (fun b o _ _ hc e _=>k b o (fun z=>hc (by simp[z])) e) (fun b o _ _ hc e _=>⟨o.slots,k b o (fun z=>hc (by simp[z])) e⟩) (fun _ _ _ _ n=>n)
  (fun b o hc e=>⟨o,k b o (fun z=>hc (by simp[z])) e⟩) (fun _ _ e=>e) (fun _ _ _ e=>e) (fun _ _ e=>e) (fun m hm=>?_) (fun b u e=>?_) I.bare
 ·have e:b=it:=by simpa using hb
  subst e
  exact⟨h1,hL,h2,h3⟩
 ·obtain⟨o,es,ep,ho,r⟩:=hm
  exact⟨o,es,ep,k _ o (Ne.symm hL) ho,r⟩
 ·refine(I.hok b u e).stay (fun c v hc q=>k c v ?_ q) (fun _ q=>q) fun _ _ q=>q
  rcases hc with z |z
  ·rw[z];exact nit b u e
  ·exact nit c _ z
theorem Inv.tok(I:Inv X pins σ H s)(t:Nat):Inv X pins σ H {s with toks:=t}:=I.un (h':=s.heap) (t':=t) Un.refl I.hok
theorem Inv.kept{t':Nat}(I:Inv X pins σ H s)(k:∀b u,s.heap.get? b=some u→h'.get? b=some u):Inv X pins σ H {s with heap:=h',toks:=t'}:=I.un (Un.kept k) (I.hok.kept k)
theorem Inv.laid{a:Addr}{o:HO}{t':Nat}(I:Inv X pins σ H s)(k:∀b u,s.heap.get? b=some u→h'.get? b=some u)(hp:s.heap.objs.size≤a)(new:ObjOk X.prog X.w (upd H a o) h' a o):
  Inv X pins σ (upd H a o) {s with heap:=h',toks:=t'}:=I.un (Un.laid k hp (I.hok.fresh hp)) (I.hok.laid k hp new)
theorem Inv.write{x e:Addr}{o:HO}{t':Nat}(I:Inv X pins σ H s)(mu:BX (H x))(he:e=x∨H e=some (.own x))(k:∀b u,b≠e→s.heap.get? b=some u→h'.get? b=some u)(heo:∃u,h'.get? e=some u)
  (new:ObjOk X.prog X.w (upd H x o) h' x o):Inv X pins σ (upd H x o) {s with heap:=h',toks:=t'}:=I.un (Un.write mu he k heo) (I.hok.write mu he k heo new)
theorem Inv.pins_of{pins':List (Addr×Obj)}(I:Inv X pins σ H s)(h:∀p∈pins',s.heap.get? p.1=some p.2∧H p.1=none∧p.1≠X.env.locals∧p.1∉X.fs∧∀v,p.2.data≠ .cell v):Inv X pins' σ H s:=
 ⟨I.ok,I.os,I.bare,I.base,I.loc,I.cell,I.free,I.freeC,fun p hp=>(Zao.mp hp).elim (fun z=>I.pin p (List.mem_append_left _ z)) (h p),I.hok,I.len⟩
theorem oe{N:List Str}(hN:N.Nodup){i j:Nat}{x:Str}(a:N[i]? =some x)(b:N[j]? =some x):i=j:=by
 obtain⟨h1,e1⟩:=List.getElem?_eq_some_iff.mp a
 obtain⟨h2,e2⟩:=List.getElem?_eq_some_iff.mp b
 exact(List.getElem_inj hN).mp (e1.trans e2.symm)
theorem su{M:Model}{A:Around}{E:Value→Shared→Prop}{i:Nat}{x:Str}{v:V}{u:Value}{Q:Unit→Shared→Prop}(I:Inv X pins σ H s)(hN:X.N.Nodup)(hi:X.N[i]? =some x)(hx:yR X.env.scope x)(r:RelV v u)
  (h:∀s',Inv X pins (σ.set i (some v)) H s'→(∃a,Heap.SameBut a s.heap s'.heap∧(a=X.env.locals∨X.env.cells.lookup x=some a))→Q () s') (hf:X.fn x=true∨X.env.scope.names.lookup x=some .local:=by first |exact .inl rfl |exact .inr rfl |assumption):wpAny M A (storeName X.env x u) Q E s:=by
 obtain⟨m,hn,hl⟩:=id I.loc
 have hcls:(X.env.scope.kind ==.class||(X.env.scope.kind ==.module&&X.env.locals != X.env.globals))=false:=by rw[I.ok.kind];rfl
 have hiσ:i < σ.length:=by rw[I.len];exact(List.getElem?_eq_some_iff.mp hi).1
 have cne:=I.cne
 have tracked:∀{a:Addr} {h':Heap},(∃o,s.heap.get? a=some o∧H a=none)→Heap.SameBut a s.heap h'→HOk X.prog X.w H h':=fun {a h'} ha hs b ob e=>by
  obtain⟨_,_,hfree⟩:=ha
  refine(I.hok b ob e).stay (fun c w' hc q=>(hs.2 c ?_).trans q) (fun _ q=>q) fun _ _ q=>q
  rintro rfl
  rcases hc with rfl |hc
  ·rw[hfree]at e;cases e
  ·rw[hfree]at hc;cases hc
 rcases hx with hk |hk
 ·refine wpAny_storeName_local hk hn (fun h' hn' hs=>?_) hcls
  obtain⟨oL,_,_,hoL,_⟩:=id hn
  refine h _ ⟨I.ok,I.os,I.bare,⟨fun b o e n hb hx=>?_,fun b o e n hb hx=>?_,I.base.free,fun b o e hx=>?_,I.base.tups,I.base.frzs,I.base.tbls⟩,⟨_,hn',fun j y v' e1 e2 e3=>?_⟩,fun y c e=>?_,I.free,I.freeC,fun p hp=>?_,tracked ⟨oL,hoL,I.free⟩ hs,by simpa using I.len⟩ ⟨_,hs,.inl rfl⟩
  ·exact(hs.2 b (eT (i7 (eB e) I.ok.above))).trans (I.base.keep b o e n hb hx)
  ·obtain⟨sl,e1⟩:=I.base.slot b o e n hb hx
   exact⟨sl,(hs.2 b (eT (i7 (eB e) I.ok.above))).trans e1⟩
  ·obtain⟨o',e1⟩:=I.base.there b o e hx
   exact⟨o',(hs.2 b (eT (i7 (eB e) I.ok.above))).trans e1⟩
  ·by_cases hj:j=i
   ·subst hj
    rw[hi]at e1;cases e1
    rw[List.getElem?_set_self hiσ]at e2
    cases e2
    exact⟨u,r,.inl ⟨hk,by simp⟩⟩
   ·rw[List.getElem?_set_ne (Ne.symm hj)]at e2
    obtain⟨u',r',q⟩:=hl j y v' e1 e2 e3
    refine⟨u',r',?_⟩
    rcases q with⟨k,e⟩ |⟨k,c,e,z⟩
    ·refine .inl ⟨k,?_⟩
     have:y≠x:=fun e=>hj (oe hN e1 (e▸hi))
     simp[this,e]
    ·exact .inr ⟨k,c,e,z.sameBut hs (cne y c e)⟩
  ·obtain⟨w',z⟩:=I.cell y c e
   exact⟨w',z.sameBut hs (cne y c e)⟩
  ·obtain⟨e,n,ne,nf,d⟩:=I.pin p hp
   exact⟨(hs.2 p.1 ne).trans e,n,ne,nf,d⟩
 ·have hfn:X.fn x=true:=by
   rcases hf with z |z
   ·exact z
   ·rw[z]at hk;cases hk
  obtain⟨c,hc⟩:=I.ok.has x (.inl hk)
  obtain⟨w',z⟩:=I.cell x c hc
  refine wpAny_storeName_cell I.ok.kind hk hc z (fun h' hc' hs=>?_)
  obtain⟨oc,hoc,hocd⟩:=id z
  refine h {s with heap:=h'} ⟨I.ok,I.os,I.bare,⟨fun b o e n hb hx=>?_,fun b o e n hb hx=>?_,I.base.free,fun b o e hx=>?_,I.base.tups,I.base.frzs,I.base.tbls⟩,⟨m,hn.sameBut hs (Ne.symm (cne x c hc)),fun j y v' e1 e2 e3=>?_⟩,fun y c' e=>?_,I.free,I.freeC,fun p hp=>?_,tracked ⟨oc,hoc,I.freeC x c hc⟩ hs,by simpa using I.len⟩ ⟨c,hs,.inr hc⟩
  ·exact(hs.2 b (eT (i7 (eB e) (I.ok.cab x c hfn hc)))).trans (I.base.keep b o e n hb hx)
  ·obtain⟨sl,e1⟩:=I.base.slot b o e n hb hx
   exact⟨sl,(hs.2 b (eT (i7 (eB e) (I.ok.cab x c hfn hc)))).trans e1⟩
  ·obtain⟨o',e1⟩:=I.base.there b o e hx
   exact⟨o',(hs.2 b (eT (i7 (eB e) (I.ok.cab x c hfn hc)))).trans e1⟩
  ·by_cases hj:j=i
   ·subst hj
    rw[hi]at e1;cases e1
    rw[List.getElem?_set_self hiσ]at e2
    cases e2
    exact⟨u,r,.inr ⟨.inl hk,c,hc,hc'⟩⟩
   ·rw[List.getElem?_set_ne (Ne.symm hj)]at e2
    obtain⟨u',r',q⟩:=hl j y v' e1 e2 e3
    refine⟨u',r',?_⟩
    rcases q with q |⟨k,c',e,z'⟩
    ·exact .inl q
    ·refine .inr ⟨k,c',e,z'.sameBut hs ?_⟩
     rintro rfl
     exact hj (oe hN e1 (I.ok.inj _ _ _ e hc▸hi))
  ·by_cases hcc:c'=c
   ·subst hcc;exact⟨_,hc'⟩
   ·obtain⟨w2,z2⟩:=I.cell y c' e
    exact⟨w2,z2.sameBut hs hcc⟩
  ·obtain⟨e,n,ne,nf,d⟩:=I.pin p hp
   refine⟨(hs.2 p.1 ?_).trans e,n,ne,nf,d⟩
   intro q
   rw[q,hoc]at e
   have q':oc=p.2:=Option.some.inj e
   exact d w' (by rw[←q'];exact hocd)
theorem iE{M:Model}{A:Around}{E:Value→Shared→Prop}{i:Nat}{x:Str}{v:V}{u:Value}{Q:Unit→Shared→Prop}(I:Inv X pins σ H s)(hN:X.N.Nodup)(hi:X.N[i]? =some x)(hx:yR X.env.scope x)(r:RelV v u)
  (h:∀s',Inv X pins (σ.set i (some v)) H s'→Q () s') (hf:X.fn x=true∨X.env.scope.names.lookup x=some .local:=by first |exact .inl rfl |exact .inr rfl |assumption):wpAny M A (storeName X.env x u) Q E s:=
 su I hN hi hx r (fun s' I' _=>h s' I') hf
theorem Inv.call'{s':Shared}{ch:List Addr}(I:Inv X pins σ H s)(ho:s'.os=s.os)(u:Un (sr X.stack) ch H H' s.heap s'.heap)(hok:HOk X.prog X.w H' s'.heap)(hg:AllBare s'.gens)
  (hch:∀b∈ch,(b∈X.ex∨X.s₀.heap.objs.size≤b)∧b≠X.env.locals∧(∀x c,X.env.cells.lookup x=some c→c≠b)∧∀p∈X.pn++pins,p.1≠b):Inv X pins σ H' s':=by
 obtain⟨h',g',d',t',o'⟩:=s'
 have e:o'=s.os:=ho
 subst e
 exact I.call (g':=g') (t':=t') (d':=d') u hok hg hch
end
abbrev XK:=Value→Option Addr→Hp→Prop
abbrev St:=List (Option V)
abbrev VK:=V→Hp→Prop
abbrev TE:=St→Hp→VK→Prop
abbrev TT:=St→Hp→(Bool→Hp→Prop)→Prop
abbrev TA:=St→Hp→(List V→Hp→Prop)→Prop
structure Ends where
 nx:St→Hp→Prop
 rt:VK
 bk:St→Hp→Prop:=fun _ _=>False
 ct:St→Hp→Prop:=fun _ _=>False
abbrev TS:=Ends→St→Hp→Prop
def EP(X:Cx)(pins:List (Addr×Obj))(σ:St)(Q:VK)(u:Value)(s':Shared):Prop:=∃v H',Inv X pins σ H' s'∧RelV v u∧Q v H'
def TP(X:Cx)(pins:List (Addr×Obj))(σ:St)(Q:Bool→Hp→Prop)(b:Bool)(s':Shared):Prop:=∃H',Inv X pins σ H' s'∧Q b H'
def AP(X:Cx)(pins:List (Addr×Obj))(σ:St)(Q:List V→Hp→Prop)(us:List Value)(s':Shared):Prop:=∃vs H',Inv X pins σ H' s'∧Vals vs us∧Q vs H'
def SP(X:Cx)(pins:List (Addr×Obj))(D:Ends)(f:Flow)(s':Shared):Prop:=
 match f with
 |.next=>∃σ' H',Inv X pins σ' H' s'∧D.nx σ' H'
 |.brk=>∃σ' H',Inv X pins σ' H' s'∧D.bk σ' H'
 |.cont=>∃σ' H',Inv X pins σ' H' s'∧D.ct σ' H'
 |.ret u=>∃v σ' H',Inv X pins σ' H' s'∧RelV v u∧D.rt v H'
def PE(X:Cx)(e:Expr)(t:TE):Prop:=
 ∀(pins:List (Addr×Obj)) (s:Shared) (σ:St) (H:Hp) (Q:VK),Inv X pins σ H s→t σ H Q→wpAny (model X.prog X.w) X.A (eval e X.env) (EP X pins σ Q) X.xe s
def PT(X:Cx)(e:Expr)(t:TT):Prop:=
 ∀(pins:List (Addr×Obj)) (s:Shared) (σ:St) (H:Hp) (Q:Bool→Hp→Prop),Inv X pins σ H s→t σ H Q→wpAny (model X.prog X.w) X.A (isTrue e X.env (eval e X.env)) (TP X pins σ Q) X.xe s
def PW(X:Cx)(e:Expr)(t:TT):Prop:=
 ∀(whole:Sem Value) (pins:List (Addr×Obj)) (s:Shared) (σ:St) (H:Hp) (Q:Bool→Hp→Prop),Inv X pins σ H s→t σ H Q→wpAny (model X.prog X.w) X.A (isTrue e X.env whole) (TP X pins σ Q) X.xe s
theorem PW.pt{X:Cx}{e:Expr}{t:TT}(h:PW X e t):PT X e t:=h _
def PA(X:Cx)(es:List Expr)(t:TA):Prop:=
 ∀(pos:Pos) (pins:List (Addr×Obj)) (s:Shared) (σ:St) (H:Hp) (Q:List V→Hp→Prop),Inv X pins σ H s→t σ H Q→wpAny (model X.prog X.w) X.A (spliced (backTo pos (starEach es X.env))) (AP X pins σ Q) X.xe s
def PS(X:Cx)(st:Stmt)(t:TS):Prop:=
 ∀(pins:List (Addr×Obj)) (s:Shared) (σ:St) (H:Hp) (D:Ends),Inv X pins σ H s→t D σ H→wpAny (model X.prog X.w) X.A (exec st X.env) (SP X pins D) X.xe s
def PSs(X:Cx)(st:List Stmt)(t:TS):Prop:=
 ∀(pins:List (Addr×Obj)) (s:Shared) (σ:St) (H:Hp) (D:Ends),Inv X pins σ H s→t D σ H→wpAny (model X.prog X.w) X.A (execs st X.env) (SP X pins D) X.xe s
theorem cr{α:Type}{t:Sem α}{Q Q':α→Shared→Prop}{M:Model}{A:Around}{E:Value→Shared→Prop}{s:Shared}(h:wpAny M A t Q E s)(hQ:∀a s,Q a s→Q' a s):wpAny M A t Q' E s:=wpAny_mono h hQ fun _ _ x=>x
end L2
namespace L2
open PySem PySem.Spec PyProof.Rows
section
variable {X:Cx}
def og(i:Nat):TE:=fun σ H Q=>∃v,σ[i]? =some (some v)∧Q v H
def tC(v:V):TE:=fun _ H Q=>Q v H
theorem pX {i:Nat} {x:Str} {pos:Pos} (hN:X.N[i]? =some x) (hv:wu X.env.scope x) (hd:(x == ("__debug__":Str))=false:=by decide) (hcd:(x == ("__classdict__":Str))=false:=by decide):PE X (.Name x pos) (og i):=by
 intro pins s σ H Q I h
 obtain⟨v,e,h⟩:=h
 obtain⟨m,hn,hl⟩:=I.loc
 obtain⟨u,r,l⟩:=hl i x v hN e hv
 have fin:EP X pins σ Q u s:=⟨v,H,I,r,h⟩
 rcases l with⟨hk,hm⟩ |⟨hk,c,hc,hcell⟩
 ·exact wpAny_Name (wpAny_loadName_local I.ok.kind hk hn hm fin) hd
 ·rcases hk with hk |hk
  ·exact wpAny_Name (wpAny_loadName_cell I.ok.kind hk hc hcell fin) hd
  ·exact wpAny_Name (wpAny_loadName_free I.ok.kind hk hc hcell fin hcd) hd
theorem yS{i j pos}:PE X (.Constant (.int i) j pos) (tC (.int i)):=fun _ _ _ H _ I h=>wpAny_Constant_int ⟨.int i,H,I.tok _,⟨_,rfl⟩,h⟩
theorem AL{b j pos}:PE X (.Constant (.bool b) j pos) (tC (.bl b)):=fun _ _ _ H _ I h=>Constant_bool ⟨.bl b,H,I,rfl,h⟩
theorem uk{x j pos}:PE X (.Constant (.str x) j pos) (tC (.str x)):=fun _ _ _ H _ I h=>Calls.Constant_str ⟨.str x,H,I.tok _,⟨_,rfl⟩,h⟩
def Gl(X:Cx)(x:Str):Prop:=X.env.kindOf x=some .globalImplicit
theorem j5{E:Value→Shared→Prop}{pins:List (Addr×Obj)}{s:Shared}{σ:St}{H:Hp}{x:Str}{u:Value}{pos:Pos}{Q:Value→Shared→Prop}(I:Inv X pins σ H s)(hg:Gl X x)(hm:X.mg x=some u)(h:Q u s)
  (hd:(x == ("__debug__":Str))=false:=by decide):wpAny (model X.prog X.w) X.A (eval (.Name x pos) X.env) Q E s:=
 Calls.Name_function_global I.ok.kind hg (Calls.loadGlobal_global (by rw[I.ok.glob];exact I.mod.glob.keeps I.bk) hm h) hd
theorem i9{E:Value→Shared→Prop}{pins:List (Addr×Obj)}{s:Shared}{σ:St}{H:Hp}{x:Str}{u:Value}{pos:Pos}{Q:Value→Shared→Prop}(I:Inv X pins σ H s)(hg:Gl X x)(hm:X.mg x=none)(hv:bootBuiltins x=some u)(h:Q u s)
  (hn:x≠"__name__":=by decide) (hd:(x == ("__debug__":Str))=false:=by decide):wpAny (model X.prog X.w) X.A (eval (.Name x pos) X.env) Q E s:=by
 obtain⟨mb,h1,h2⟩:=I.mod.blt
 exact Calls.Name_function_global I.ok.kind hg (Calls.loadGlobal_builtin (by rw[I.ok.glob];exact I.mod.glob.keeps I.bk) hm (by rw[I.ok.blt];exact h1.keeps I.bk) ((h2 x hn).trans hv) h) hd
theorem qU {x:Str} {v:V} {u:Value} {pos:Pos} (hg:Gl X x) (hm:X.mg x=some u) (r:RelV v u) (hd:(x == ("__debug__":Str))=false:=by decide):PE X (.Name x pos) (tC v):=
 fun _ _ _ H _ I h=>j5 I hg hm ⟨v,H,I,r,h⟩ hd
theorem wv {x:Str} {v:V} {u:Value} {pos:Pos} (hg:Gl X x) (hm:X.mg x=none) (hv:bootBuiltins x=some u) (r:RelV v u) (hn:x≠"__name__":=by decide) (hd:(x == ("__debug__":Str))=false:=by decide):PE X (.Name x pos) (tC v):=
 fun _ _ _ H _ I h=>i9 I hg hm hv ⟨v,H,I,r,h⟩ hn hd
variable {a b:Expr} {ta tb:TE} {pos:Pos}
variable {tA tB':TT} {aA:List Expr}
def B7(t u:TT):TT:=fun σ H Q=>t σ H fun c H1=>if c=true then u σ H1 Q else Q false H1
def CN(t u:TT):TT:=fun σ H Q=>t σ H fun c H1=>if c=true then Q true H1 else u σ H1 Q
def AM(t:TT):TT:=fun σ H Q=>t σ H fun c H1=>Q (!c) H1
theorem ww(ha:PT X a tA):PW X (.BoolOp .And [a] pos) tA:=by
 intro wh pins s σ H Q I h
 refine isTrue_and (cr (ha pins s σ H Q I h) fun c s1 e=>?_)
 cases c with
 |true=>exact isTrue_and_nil e
 |false=>exact e
theorem yT(ha:PT X a tA):PW X (.BoolOp .Or [a] pos) tA:=by
 intro wh pins s σ H Q I h
 refine isTrue_or (cr (ha pins s σ H Q I h) fun c s1 e=>?_)
 cases c with
 |false=>exact isTrue_or_nil e
 |true=>exact e
theorem yU(ha:PT X a tA)(hb:PW X (.BoolOp .And (b::aA) pos) tB'):PW X (.BoolOp .And (a::b::aA) pos) (B7 tA tB'):=by
 intro wh pins s σ H Q I h
 refine isTrue_and (cr (ha pins s σ H _ I h) fun c s1 ⟨H1,I1,q1⟩=>?_)
 cases c with
 |true=>exact hb wh pins s1 σ H1 Q I1 q1
 |false=>exact⟨H1,I1,q1⟩
theorem AN(ha:PT X a tA)(hb:PW X (.BoolOp .Or (b::aA) pos) tB'):PW X (.BoolOp .Or (a::b::aA) pos) (CN tA tB'):=by
 intro wh pins s σ H Q I h
 refine isTrue_or (cr (ha pins s σ H _ I h) fun c s1 ⟨H1,I1,q1⟩=>?_)
 cases c with
 |true=>exact⟨H1,I1,q1⟩
 |false=>exact hb wh pins s1 σ H1 Q I1 q1
theorem yV(ha:PT X a tA):PT X (.UnaryOp .Not a pos) (AM tA):=by
 intro pins s σ H Q I h
 exact isTrue_not (ha pins s σ H (fun c H1=>Q (!c) H1) I h)
def AO(ta tb:TE):TE:=fun σ H Q=>ta σ H fun x H1=>∃c,x=.bl c∧if c=true then tb σ H1 Q else Q (.bl false) H1
theorem yW{op}{t:TE}(h:PE X a t):PE X (.BoolOp op [a] pos) t:=fun pins s σ H Q I hw=>BoolOp_one (h pins s σ H Q I hw)
theorem yX(ha:PE X a ta)(hb:PE X (.BoolOp .And (b::aA) pos) tb):PE X (.BoolOp .And (a::b::aA) pos) (AO ta tb):=by
 intro pins s σ H Q I h
 refine BoolOp_and (cr (ha pins s σ H _ I h) fun v s1 ⟨x,H1,I1,r1,q1⟩=>?_)
 obtain⟨c,rfl,q1⟩:=q1
 cases r1
 refine wpAny_truthy_bool ?_
 cases c with
 |true=>exact hb pins s1 σ H1 Q I1 q1
 |false=>exact⟨.bl false,H1,I1,rfl,q1⟩
end
end L2
namespace L2
open PySem PySem.Spec PyProof.Rows
def SqL(K:Frag)(H:Hp)(a:Addr)(xs:List V):Prop:=
 Rd H a (.lst xs)∨
  ∃(o:Obj) (its:Array Value) (n:Nat),K.lookup a=some o∧o.cls=.type "list"∧o.dict=none∧o.data=.seq its n∧its.size≤sizeLine∧Vals xs its.toList
def SqT(K:Frag)(H:Hp)(a:Addr)(xs:List V):Prop:=
 Rd H a (.tup xs)∨
  ∃(o:Obj) (its:Array Value) (n:Nat),K.lookup a=some o∧o.cls=.type "tuple"∧o.data=.seq its n∧its.size≤sizeLine∧Vals xs its.toList
def B8:Value→Option V
 |.none=>some .non
 |.bool b=>some (.bl b)
 |.int i _=>some (.int i)
 |.str x _=>some (.str x)
 |.bytes b _=>some (.byt b)
 |.float b _=>some (.flt b)
 |.ref a=>some (.ref a)
 |.type n=>some (.ty n)
 |_=>none
theorem RelV.abs{x:V}{u:Value}(r:RelV x u):B8 u=some x:=by
 cases x with
 |non=>cases r;rfl
 |bl _=>cases r;rfl
 |int _=>obtain⟨t,rfl⟩:=r;rfl
 |str _=>obtain⟨t,rfl⟩:=r;rfl
 |byt _=>obtain⟨t,rfl⟩:=r;rfl
 |flt _=>obtain⟨t,rfl⟩:=r;rfl
 |ref _=>cases r;rfl
 |ty _=>cases r;rfl
theorem RelV.inj{x y:V}{u:Value}(r:RelV x u)(q:RelV y u):x=y:=Option.some.inj (r.abs.symm.trans q.abs)
theorem Vals.inj{xs ys:List V}{us:List Value}(h:Vals xs us)(k:Vals ys us):xs=ys:=by
 induction h generalizing ys with
 |nil=>cases k;rfl
 |cons r _ ih=>cases k with |cons r' t'=>rw[r.inj r',ih t']
section
variable {X:Cx} {pins:List (Addr×Obj)} {σ:St} {H:Hp} {s:Shared} {a:Addr} {xs ys:List V}
theorem SqL.of{K:Frag}(h:H a=some (.lst xs)):SqL K H a xs:=.inl (.inl h)
theorem SqT.of{K:Frag}(h:H a=some (.tup xs)):SqT K H a xs:=.inl (.inl h)
theorem Inv.list(I:Inv X pins σ H s)(h:SqL X.K H a xs):∃its:List Value,Vals xs its∧PlainL s.heap a its.toArray∧xs.length≤sizeLine:=by
 rcases h with h |⟨o,its,n,hk,hc,hd,hs,hz,r⟩
 ·obtain⟨z,its,n,r,e⟩:=h.ok I.hok
  exact⟨its,r,⟨_,n,e,rfl,rfl,rfl⟩,z⟩
 ·refine⟨its.toList,r,⟨o,n,I.kIn a o hk,hc,hd,by simpa using hs⟩,?_⟩
  have e:=r.length
  simp only[pT]at e
  omega
theorem Inv.tuple(I:Inv X pins σ H s)(h:SqT X.K H a xs):∃its:List Value,Vals xs its∧IsTup s.heap a its.toArray∧xs.length≤sizeLine:=by
 rcases h with h |⟨o,its,n,hk,hc,hs,hz,r⟩
 ·obtain⟨z,its,r,p⟩:=h.ok I.hok
  exact⟨its,r,p,z⟩
 ·refine⟨its.toList,r,⟨o,I.kIn a o hk,hc,n,by simpa using hs⟩,?_⟩
  have e:=r.length
  simp only[pT]at e
  omega
theorem Inv.list_inj(I:Inv X pins σ H s)(h:SqL X.K H a xs)(h':SqL X.K H a ys):xs=ys:=by
 obtain⟨its,r,⟨o,n,e,_,_,d⟩,_⟩:=I.list h
 obtain⟨its',r',⟨o',n',e',_,_,d'⟩,_⟩:=I.list h'
 rw[e]at e';cases e'
 rw[d]at d'
 injection d' with d1 _
 have:its=its':=by simpa using congrArg Array.toList d1
 subst this
 exact r.inj r'
theorem Inv.tuple_inj(I:Inv X pins σ H s)(h:SqT X.K H a xs)(h':SqT X.K H a ys):xs=ys:=by
 obtain⟨its,r,⟨o,e,_,n,d⟩,_⟩:=I.tuple h
 obtain⟨its',r',⟨o',e',_,n',d'⟩,_⟩:=I.tuple h'
 rw[e]at e';cases e'
 rw[d]at d'
 injection d' with d1 _
 have:its=its':=by simpa using congrArg Array.toList d1
 subst this
 exact r.inj r'
end
abbrev Cx.wish(X:Cx)(E:Value→Shared→Prop):Cx:={X with xe:=E}
abbrev Cx.nox(X:Cx):Cx:=X.wish fun _ _=>False
theorem Cx.Ok.wish{X:Cx}(ok:X.Ok)(E:Value→Shared→Prop):(X.wish E).Ok:=
 ⟨ok.mod,ok.kind,ok.glob,ok.blt,ok.above,ok.inj,ok.has,ok.cab,ok.hd,ok.frames,ok.stk,ok.exf,ok.bs,ok.bsz,ok.noex,ok.exfs,ok.funs,ok.frf,ok.tab⟩
theorem Cx.Ok.unwish{X:Cx}{E:Value→Shared→Prop}(ok:(X.wish E).Ok):X.Ok:=
 ⟨ok.mod,ok.kind,ok.glob,ok.blt,ok.above,ok.inj,ok.has,ok.cab,ok.hd,ok.frames,ok.stk,ok.exf,ok.bs,ok.bsz,ok.noex,ok.exfs,ok.funs,ok.frf,ok.tab⟩
section
variable {X:Cx} {pins:List (Addr×Obj)} {σ:St} {H:Hp} {s:Shared} {E:Value→Shared→Prop}
theorem Inv.wish(I:Inv X pins σ H s)(E:Value→Shared→Prop):Inv (X.wish E) pins σ H s:=⟨I.ok.wish E,I.os,I.bare,I.base,I.loc,I.cell,I.free,I.freeC,I.pin,I.hok,I.len⟩
theorem Inv.unwish(I:Inv (X.wish E) pins σ H s):Inv X pins σ H s:=⟨I.ok.unwish,I.os,I.bare,I.base,I.loc,I.cell,I.free,I.freeC,I.pin,I.hok,I.len⟩
theorem SP.unwish{D:Ends}{f:Flow}{s':Shared}(h:SP (X.wish E) pins D f s'):SP X pins D f s':=by
 cases f with
 |next=>obtain⟨σ',H',I,q⟩:=h;exact⟨σ',H',I.unwish,q⟩
 |brk=>obtain⟨σ',H',I,q⟩:=h;exact⟨σ',H',I.unwish,q⟩
 |cont=>obtain⟨σ',H',I,q⟩:=h;exact⟨σ',H',I.unwish,q⟩
 |ret u=>obtain⟨v,σ',H',I,r,q⟩:=h;exact⟨v,σ',H',I.unwish,r,q⟩
theorem PE.nox{e:Expr}{t:TE}(h:PE X.nox e t):PE X e t:=fun pins s σ H Q I hw=>
 wpAny_mono (h pins s σ H Q (I.wish _) hw) (fun _ _ ⟨v,H',I',r,q⟩=>⟨v,H',I'.unwish,r,q⟩) fun _ _ z=>False.elim z
theorem PT.nox{e:Expr}{t:TT}(h:PT X.nox e t):PT X e t:=fun pins s σ H Q I hw=>
 wpAny_mono (h pins s σ H Q (I.wish _) hw) (fun _ _ ⟨H',I',q⟩=>⟨H',I'.unwish,q⟩) fun _ _ z=>False.elim z
theorem PSs.nox{st:List Stmt}{t:TS}(h:PSs X.nox st t):PSs X st t:=fun pins s σ H D I hw=>
 wpAny_mono (h pins s σ H D (I.wish _) hw) (fun _ _ q=>q.unwish) fun _ _ z=>False.elim z
end
section
variable {X:Cx} {st:Stmt} {aA:List Stmt} {t u:TS} {e:Expr} {te:TE} {pos:Pos}
def AQ:TS:=fun D σ H=>D.nx σ H
def AR(t u:TS):TS:=fun D σ H=>t {D with nx:=u D} σ H
theorem wx:PSs X [] AQ:=fun _ _ σ H _ I h=>wpAny_execs_nil ⟨σ,H,I,h⟩
theorem ul(h1:PS X st t)(h2:PSs X aA u):PSs X (st::aA) (AR t u):=by
 intro pins s σ H D I h
 refine wpAny_execs_cons (cr (h1 pins s σ H {D with nx:=u D} I h) fun f s1 q=>?_)
 cases f with
 |next=>
  obtain⟨σ',H',I',q⟩:=q
  exact h2 pins s1 σ' H' D I' q
 |ret v=>exact q
 |brk=>exact q
 |cont=>exact q
theorem wy(h1:PS X st t):PSs X [st] t:=by
 intro pins s σ H D I h
 refine wpAny_execs_cons (cr (h1 pins s σ H D I h) fun f s1 q=>?_)
 cases f with
 |next=>exact wpAny_execs_nil q
 |ret v=>exact q
 |brk=>exact q
 |cont=>exact q
theorem Inv.quiet{pins:List (Addr×Obj)}{σ:St}{H:Hp}{s:Shared}(I:Inv X pins σ H s):interactive X.env=false:=by simp[interactive,I.ok.kind]
def AS(te:TE):TS:=fun D σ H=>te σ H fun _ H1=>D.nx σ H1
theorem wz(he:PE X e te)(hs:swapsWith e none pos.line X.env=pure false:=by rfl):PS X (.Expr e pos) (AS te):=by
 intro pins s σ H D I h
 exact wpAny_Expr_any (cr (he pins s σ H _ I h) fun v s1 ⟨x,H1,I1,r1,q1⟩=>⟨σ,H1,I1,q1⟩) I.quiet hs
def B9(te:TE):TS:=fun D σ H=>te σ H D.rt
theorem yY(he:PE X e te):PS X (.Return (some e) pos) (B9 te):=by
 intro pins s σ H D I h
 exact wpAny_Return_some (cr (he pins s σ H _ I h) fun v s1 ⟨x,H1,I1,r1,q1⟩=>⟨x,σ,H1,I1,r1,q1⟩)
def wA(c:TT)(t u:TS):TS:=fun D σ H=>c σ H fun b H1=>if b=true then t D σ H1 else u D σ H1
theorem AT{c:Expr}{a b:List Stmt}{tc:TT}(hc:PT X c tc)(ha:PSs X a t)(hb:PSs X b u):PS X (.If c a b pos) (wA tc t u):=by
 intro pins s σ H D I h
 refine wpAny_If (cr (hc pins s σ H _ I h) fun d s1 ⟨H1,I1,q1⟩=>?_)
 cases d with
 |true=>exact ha pins s1 σ H1 D I1 q1
 |false=>exact hb pins s1 σ H1 D I1 q1
def yZ:TS:=fun _ _ _=>False
theorem um:PS X st yZ:=fun _ _ _ _ _ _ h=>h.elim
end
abbrev TG:=V→St→Hp→(St→Hp→Prop)→Prop
def PG(X:Cx)(target:Expr)(t:TG):Prop:=
 ∀(pins:List (Addr×Obj)) (s:Shared) (σ:St) (H:Hp) (v:V) (u:Value) (Q:St→Hp→Prop),Inv X pins σ H s→RelV v u→t v σ H Q→
  wpAny (model X.prog X.w) X.A (assign target X.env u) (fun _ s'=>∃σ' H',Inv X pins σ' H' s'∧Q σ' H') X.xe s
section
variable {X:Cx} {pos:Pos}
def jF(i:Nat):TG:=fun v σ H Q=>Q (σ.set i (some v)) H
theorem mS{i:Nat}{x:Str}(hN:X.N.Nodup)(hi:X.N[i]? =some x)(hx:yR X.env.scope x)(hf:X.fn x=true∨X.env.scope.names.lookup x=some .local:=by first |exact .inl rfl |exact .inr rfl |assumption):PG X (.Name x pos) (jF i):=by
 intro pins s σ H v u Q I r h
 exact wpAny_assign_Name (iE I hN hi hx r (fun s' I'=>⟨_,H,I',h⟩) hf)
def y0(te:TE)(g:TG):TS:=fun D σ H=>te σ H fun x H1=>g x σ H1 D.nx
theorem y9{i:Nat}{x:Str}{e:Expr}{te:TE}{pos':Pos}(hN:X.N.Nodup)(hi:X.N[i]? =some x)(hx:yR X.env.scope x)(he:PE X e te)(hs:swapsWith e (some (.Name x pos')) pos.line X.env=pure false:=by rfl)(hf:X.fn x=true∨X.env.scope.names.lookup x=some .local:=by first |exact .inl rfl |exact .inr rfl |assumption):
  PS X (.Assign [.Name x pos'] e pos) (y0 te (jF i)):=by
 intro pins s σ H D I h
 refine wpAny_Assign_Name (cr (he pins s σ H _ I h) fun v s1 ⟨y,H1,I1,r1,q1⟩=>?_) hs
 exact iE I1 hN hi hx r1 (fun s2 I2=>⟨_,H1,I2,q1⟩) hf
end
structure It where
 go:Nat→Hp→Prop
 yld:Nat→Hp→V→Hp→Prop
 stop:Nat→Hp→Prop
def g8(X:Cx)(pins:List (Addr×Obj))(H:Hp)(b:Addr):Prop:=
 H b=none∧b≠X.env.locals∧b∉X.fs∧(b∈X.ex∨X.s₀.heap.objs.size≤b)∧(∀x c,X.env.cells.lookup x=some c→c≠b)∧∀p∈X.pn++pins,p.1≠b
theorem Inv.fpOk{X:Cx}{pins:List (Addr×Obj)}{σ:St}{H H':Hp}{s:Shared}{b:Addr}(I:Inv X pins σ H s)(hb:s.heap.objs.size≤b)(hn:H' b=none):g8 X pins H' b:=by
 refine⟨hn,Nat.ne_of_gt (i7 I.lt hb),I.nofs hb,.inr (gG I.sz hb),fun x c e z=>?_,fun p hp z=>?_⟩
 ·obtain⟨v,q⟩:=I.cell x c e
  exact absurd (i7 q.lt (by rw[z];exact hb)) (Nat.lt_irrefl _)
 ·exact absurd (i7 (eB (I.pin p hp).1) (by rw[z];exact hb)) (Nat.lt_irrefl _)
structure Turn (P:Program) (w:World) (K:Frag) (tg:Expr) (J:It) (fp:List Addr) (it:Addr) (tn:Nat→Heap→Prop):Prop where
 mem:it∈fp
 obj:∀i h,tn i h→∀b∈fp,∃o,h.get? b=some o∧∀v,o.data≠ .cell v
 keep:∀i h h',tn i h→(∀b∈fp,∀o,h.get? b=some o→h'.get? b=some o)→tn i h'
 item:∀(X:Cx),X.prog=P→X.w=w→X.K=K→X.calm=true→∀(i:Nat) (pins:List (Addr×Obj)) (s:Shared) (σ:St) (H:Hp) (E:Value→Shared→Prop),Inv X pins σ H s→(∀b∈fp,g8 X pins H b)→tn i s.heap→J.go i H→
  wpAny (model P w) X.A (pyNext (.ref it)) (fun r s1=>∃u,r=some u∧
   wpAny (model P w) X.A (letOwnedTupleGo tg (.ref it) u) (fun _ s2=>∃x H',Inv X pins σ H' s2∧RelV x u∧J.yld i H x H'∧tn (i+1) s2.heap∧∀b∈fp,H' b=none) E s1) E s
 done:∀(X:Cx),X.prog=P→X.w=w→X.K=K→X.calm=true→∀(i:Nat) (pins:List (Addr×Obj)) (s:Shared) (σ:St) (H:Hp) (E:Value→Shared→Prop),Inv X pins σ H s→(∀b∈fp,g8 X pins H b)→tn i s.heap→J.stop i H→
  wpAny (model P w) X.A (pyNext (.ref it)) (fun r s1=>r=none∧Inv X pins σ H s1) E s
 self:∀(A:Around) (i:Nat) (s:Shared) (Q:Value→Shared→Prop) (E:Value→Shared→Prop),tn i s.heap→Q (.ref it) s→wpAny (model P w) A (pyIter (.ref it)) Q E s
abbrev TI:=St→Hp→(It→Hp→Prop)→Prop
def B_(X:Cx)(pins:List (Addr×Obj))(σ:St)(tg:Expr)(R:It→Hp→Prop)(itv:Value)(s2:Shared):Prop:=
 ∃(it:Addr) (fp:List Addr) (tn:Nat→Heap→Prop) (J:It) (H':Hp),itv=.ref it∧Inv X pins σ H' s2∧Turn X.prog X.w X.K tg J fp it tn∧tn 0 s2.heap∧(∀b∈fp,g8 X pins H' b)∧R J H'
def PI(X:Cx)(tg iter:Expr)(wi:TI):Prop:=
 ∀(pins:List (Addr×Obj)) (s:Shared) (σ:St) (H:Hp) (R:It→Hp→Prop),Inv X pins σ H s→wi σ H R→
  wpAny (model X.prog X.w) X.A (eval iter X.env) (fun v s1=>wpAny (model X.prog X.w) X.A (pyIter v) (B_ X pins σ tg R) X.xe s1) X.xe s
theorem oh{M:Model}{A:Around}{E:Value→Shared→Prop}{s:Shared}{tg:Expr}{it:Addr}{u:Value}{o:Obj}{n:String}{vs:Array Value}{Q:Unit→Shared→Prop}(ho:s.heap.get? it=some o)(hc:o.cls=.type n)(hd:o.data=.fields vs)
  (hn:["enumerate","zip","dict_itemiterator","dict_reverseitemiterator","odict_iterator","itertools.zip_longest","itertools.pairwise"].contains n=false) (hQ:Q () s):wpAny M A (letOwnedTupleGo tg (.ref it) u) Q E s:=by
 unfold letOwnedTupleGo
 cases tg <;> first
  |exact wpAny_pure hQ
  |(cases u <;> first
    |exact wpAny_pure hQ
    |(refine wpAny_bind (wpAny_load ho ?_)
      rw[hc,hd]
      show wpAny M A (if (["enumerate","zip","dict_itemiterator","dict_reverseitemiterator","odict_iterator","itertools.zip_longest","itertools.pairwise"].contains n&&vs[0]? == some (rawInt _))=true then _ else _) Q E s
      rw[if_neg (by intro h;rw[hn,Bool.false_and]at h;cases h)]
      exact wpAny_pure hQ))
def Ca(K:Frag)(a:Addr):It:=
 ⟨fun i H=>∃xs x,SqL K H a xs∧xs[i]? =some x,fun i H x H'=>H'=H∧∀xs,SqL K H a xs→xs[i]? =some x,fun i H=>∃xs,SqL K H a xs∧xs.length≤i⟩
def Cb(K:Frag)(a:Addr):It:=
 ⟨fun i H=>∃xs x,SqT K H a xs∧xs[i]? =some x,fun i H x H'=>H'=H∧∀xs,SqT K H a xs→xs[i]? =some x,fun i H=>∃xs,SqT K H a xs∧xs.length≤i⟩
def BZ(lo:Int)(n:Nat):It:=⟨fun i _=>i < n,fun i H x H'=>H'=H∧x=.int (lo+i),fun i _=>n≤i⟩
theorem lV{P:Program}{w:World}{K:Frag}{tg:Expr}(a it:Addr):Turn P w K tg (Ca K a) [it] it (fun i h=>h.IsListIter it a i) where
 mem:=by simp
 obj:=fun i h st b hb=>by
  have e:b=it:=by simpa using hb
  subst e
  obtain⟨o,e,c,d⟩:=st
  exact⟨o,e,fun v z=>by rw[d]at z;cases z⟩
 keep:=fun i h h' st k=>st.at fun o e=>k it (by simp) o e
 item:=by
  intro X hP hw hK hc i pins s σ H E I hf st hg
  subst hP hw hK
  obtain⟨xs,x,hq,hx⟩:=hg
  obtain⟨its,rv,p,hz⟩:=I.list hq
  obtain⟨u,hu,ru⟩:=rv.get hx
  obtain⟨f0,f1,f2,f3,f4,f5⟩:=hf it (by simp)
  refine wpAny_pyNext_list_item st p.isList (x:=u) (by simpa using hu) fun h' st' sb=>?_
  have I1:Inv X pins σ H {s with heap:=h'}:=I.turned (t':=s.toks) (fun b o hb e=>(sb.2 b hb).trans e) f0 f1 f3 f4 f5
  obtain⟨o,e,c,d⟩:=id st'
  exact⟨u,rfl,oh (s:={s with heap:=h'}) e c d (by decide) ⟨x,H,I1,ru,⟨rfl,fun ys hy=>by rw[I.list_inj hy hq];exact hx⟩,st',fun b hb=>(hf b hb).1⟩⟩
 done:=by
  intro X hP hw hK hc i pins s σ H E I hf st hg
  subst hP hw hK
  obtain⟨xs,hq,hx⟩:=hg
  obtain⟨its,rv,p,hz⟩:=I.list hq
  obtain⟨f0,f1,f2,f3,f4,f5⟩:=hf it (by simp)
  have hl:=rv.length
  exact wpAny_pyNext_list_end (I.ok.hd hc) st p.isList (by simp;omega) fun h' eb=>⟨rfl,I.turned (t':=s.toks) (fun b o hb e=>eb b o hb e) f0 f1 f3 f4 f5⟩
 self:=fun _ _ _ _ _ st h=>wpAny_pyIter_listiter st h
theorem pY{P:Program}{w:World}{K:Frag}{tg:Expr}(a it:Addr):Turn P w K tg (Cb K a) [it] it (fun i h=>h.IsTupleIter it a i) where
 mem:=by simp
 obj:=fun i h st b hb=>by
  have e:b=it:=by simpa using hb
  subst e
  obtain⟨o,e,c,d⟩:=st
  exact⟨o,e,fun v z=>by rw[d]at z;cases z⟩
 keep:=fun i h h' st k=>st.at fun o e=>k it (by simp) o e
 item:=by
  intro X hP hw hK hc i pins s σ H E I hf st hg
  subst hP hw hK
  obtain⟨xs,x,hq,hx⟩:=hg
  obtain⟨its,rv,p,hz⟩:=I.tuple hq
  obtain⟨u,hu,ru⟩:=rv.get hx
  obtain⟨f0,f1,f2,f3,f4,f5⟩:=hf it (by simp)
  refine wpAny_pyNext_tuple_item st (show s.heap.IsTuple a its.toArray from p) (x:=u) (by simpa using hu) fun h' st' sb=>?_
  have I1:Inv X pins σ H {s with heap:=h'}:=I.turned (t':=s.toks) (fun b o hb e=>(sb.2 b hb).trans e) f0 f1 f3 f4 f5
  obtain⟨o,e,c,d⟩:=id st'
  exact⟨u,rfl,oh (s:={s with heap:=h'}) e c d (by decide) ⟨x,H,I1,ru,⟨rfl,fun ys hy=>by rw[I.tuple_inj hy hq];exact hx⟩,st',fun b hb=>(hf b hb).1⟩⟩
 done:=by
  intro X hP hw hK hc i pins s σ H E I hf st hg
  subst hP hw hK
  obtain⟨xs,hq,hx⟩:=hg
  obtain⟨its,rv,p,hz⟩:=I.tuple hq
  obtain⟨f0,f1,f2,f3,f4,f5⟩:=hf it (by simp)
  have hl:=rv.length
  exact wpAny_pyNext_tuple_end (I.ok.hd hc) st (show s.heap.IsTuple a its.toArray from p) (by simp;omega) fun h' eb=>⟨rfl,I.turned (t':=s.toks) (fun b o hb e=>eb b o hb e) f0 f1 f3 f4 f5⟩
 self:=fun _ _ _ _ _ st h=>wpAny_pyIter_tupleiter st h
theorem pZ{P:Program}{w:World}{K:Frag}{tg:Expr}(it:Addr)(lo:Int)(n:Nat):Turn P w K tg (BZ lo n) [it] it (fun i h=>IsRangeIter h it (lo+(i:Nat)*1) ((n:Int) - (i:Nat)) 1) where
 mem:=by simp
 obj:=fun i h st b hb=>by
  have e:b=it:=by simpa using hb
  subst e
  exact⟨_,st,fun v z=>by
   have z':Data.fields _=Data.cell v:=z
   cases z'⟩
 keep:=fun i h h' st k=>k it (by simp) _ st
 item:=by
  intro X hP hw hK hc i pins s σ H E I hf st hg
  subst hP hw hK
  obtain⟨f0,f1,f2,f3,f4,f5⟩:=hf it (by simp)
  have W:=Walks.range (prog:=X.prog) (w:=X.w) (I.ok.hd hc) it lo 1 n
  refine W.item i s _ _ hg st fun v h' tk hv st' kk=>?_
  obtain⟨t,rfl⟩:=hv
  have I1:Inv X pins σ H {s with heap:=h',toks:=tk}:=I.turned (fun b o hb e=>kk b o (by simpa using hb) e) f0 f1 f3 f4 f5
  refine⟨_,rfl,oh (s:={s with heap:=h',toks:=tk}) (n:="range_iterator") st' rfl rfl (by decide) ⟨.int (lo+i),H,I1,⟨t,?_⟩,⟨rfl,rfl⟩,st',fun b hb=>(hf b hb).1⟩⟩
  rw[Int.mul_one]
 done:=by
  intro X hP hw hK hc i pins s σ H E I hf st hg
  subst hP hw hK
  obtain⟨f0,f1,f2,f3,f4,f5⟩:=hf it (by simp)
  exact wpAny_pyNext_range_end (I.ok.hd hc) st (by have:n≤i:=hg;omega) fun h' eb=>⟨rfl,I.turned (t':=s.toks) (fun b o hb e=>eb b o hb e) f0 f1 f3 f4 f5⟩
 self:=fun _ _ _ _ _ st h=>wpAny_pyIter_rangeiter st h
end L2
namespace L2
open PySem PySem.Spec PyProof.Rows
section
variable {X:Cx} {tg:Expr}
def ki(K:Frag)(tl:TE):TI:=fun σ H R=>tl σ H fun x H1=>∃a,x=.ref a∧(∃xs,SqL K H1 a xs)∧R (Ca K a) H1
def Cc(K:Frag)(tl:TE):TI:=fun σ H R=>tl σ H fun x H1=>∃a,x=.ref a∧(∃xs,SqT K H1 a xs)∧R (Cb K a) H1
theorem qV{l:Expr}{tl:TE}(hl:PE X l tl):PI X tg l (ki X.K tl):=by
 intro pins s σ H R I h
 refine cr (hl pins s σ H _ I h) fun v s1 ⟨x,H1,I1,r1,q1⟩=>?_
 obtain⟨a,e,⟨xs,hq⟩,q⟩:=q1
 subst e
 cases r1
 obtain⟨its,rv,p,hz⟩:=I1.list hq
 refine wpAny_pyIter_list p.isList ?_
 refine⟨s1.heap.objs.size,[s1.heap.objs.size],_,_,H1,rfl,I1.kept (t':=s1.toks) fun b o e=>dI _ e,lV a _,⟨_,gE _ rfl,rfl,rfl⟩,fun b hb=>?_,q⟩
 have e:b=s1.heap.objs.size:=by simpa using hb
 subst e
 exact I1.fpOk (dw _) (I1.hok.fresh (dw _))
theorem y_{l:Expr}{tl:TE}(hl:PE X l tl):PI X tg l (Cc X.K tl):=by
 intro pins s σ H R I h
 refine cr (hl pins s σ H _ I h) fun v s1 ⟨x,H1,I1,r1,q1⟩=>?_
 obtain⟨a,e,⟨xs,hq⟩,q⟩:=q1
 subst e
 cases r1
 obtain⟨its,rv,p,hz⟩:=I1.tuple hq
 refine wpAny_pyIter_tuple (show s1.heap.IsTuple a its.toArray from p) ?_
 refine⟨s1.heap.objs.size,[s1.heap.objs.size],_,_,H1,rfl,I1.kept (t':=s1.toks) fun b o e=>dI _ e,pY a _,⟨_,gE _ rfl,rfl,rfl⟩,fun b hb=>?_,q⟩
 have e:b=s1.heap.objs.size:=by simpa using hb
 subst e
 exact I1.fpOk (dw _) (I1.hok.fresh (dw _))
theorem uo{pins:List (Addr×Obj)}{σ:St}{H:Hp}{s:Shared}{R:It→Hp→Prop}{E:Value→Shared→Prop}{lo hi:Int}{t u v:Tok}{tk:Nat}(I:Inv X pins σ H s)(h1: -(2 ^ 62)≤lo)(h2:lo < 2 ^ 62)(h3: -(2 ^ 62)≤hi)(h4:hi < 2 ^ 62)
  (q:R (BZ lo (hi - lo).toNat) H):wpAny (model X.prog X.w) X.A (pyIter (.ref s.heap.objs.size)) (B_ X pins σ tg R) E {s with heap:=s.heap.push {cls:=.type "range",data:=.fields #[.int lo t,.int hi u,.int 1 v]},toks:=tk}:=by
 refine wpAny_pyIter_range (IsRange.new ..) (small_one h1 h2 h3 h4) ?_
 have I1:Inv X pins σ H {s with heap:=s.heap.push {cls:=.type "range",data:=.fields #[.int lo t,.int hi u,.int 1 v]},toks:=tk}:=I.kept fun b o e=>dI _ e
 refine⟨(s.heap.push {cls:=.type "range",data:=.fields #[.int lo t,.int hi u,.int 1 v]}).objs.size,[(s.heap.push {cls:=.type "range",data:=.fields #[.int lo t,.int hi u,.int 1 v]}).objs.size],_,_,H,rfl,
  I1.kept (t':=tk) fun b o e=>dI _ e,pZ _ lo (hi - lo).toNat,?_,fun b hb=>?_,q⟩
 ·have e1:lo+((0:Nat):Int)*1=lo:=by simp
  have e2:(((hi - lo).toNat:Nat):Int) - ((0:Nat):Int)=Builtin.Range.rangeSize lo hi 1:=by rw[rangeSize_one];split <;> omega
  show IsRangeIter _ _ (lo+((0:Nat):Int)*1) ((((hi - lo).toNat:Nat):Int) - ((0:Nat):Int)) 1
  rw[e1,e2]
  exact gE _ rfl
 ·have e:b=(s.heap.push {cls:=.type "range",data:=.fields #[.int lo t,.int hi u,.int 1 v]}).objs.size:=by simpa using hb
  subst e
  exact I1.fpOk (dw _) (I1.hok.fresh (dw _))
def AU(ta:TA):TI:=fun σ H R=>ta σ H fun vs H1=>∃j:Int,vs=[.int j]∧ -(2 ^ 62)≤j∧j < 2 ^ 62∧R (BZ 0 j.toNat) H1
theorem sx {a:Expr} {ta:TA} {p pos:Pos} (hg:Gl X "range") (hm:X.mg "range"=none) (ha:PA X [a] ta) (hs:starEach [a] X.env=[(false,eval a X.env)]:=by rfl):PI X tg (.Call (.Name "range" p) [a] [] pos) (AU ta):=by
 intro pins s σ H R I h
 refine Call_ (i9 I hg hm boot_range (PyProof.Rows.callWith_type1 (cr (ha pos pins s σ H _ I h) fun us s1 ⟨vs,H1,I1,r1,q1⟩=>?_) hs rfl))
 obtain⟨j,e,q1,q2,q⟩:=q1
 subst e
 cases r1 with
 |cons r rr=>
  cases rr
  obtain⟨t,rfl⟩:=r
  exact call_range_1 (uo I1 (by omega) (by omega) q1 q2 (by simpa using q))
def sy(wi:TI)(g:TG)(tb:TS):TS:=fun D σ H=>wi σ H fun J H1=>∃W:Nat→Nat→St→Hp→Prop,(∃m,W 0 m σ H1)∧∀i m σ H,W i m σ H→
 (J.stop i H∧D.nx σ H)∨(J.go i H∧∃N:St→Hp→Prop,(∀σ' H',N σ' H'→∃m',m' < m∧W (i+1) m' σ' H')∧∀x H',J.yld i H x H'→g x σ H' fun σ2 H2=>tb {D with nx:=N,ct:=N,bk:=D.nx} σ2 H2)
def gj(fp:List Addr)(h:Heap):List (Addr×Obj):=fp.filterMap fun b=>(h.get? b).map fun o=>(b,o)
theorem cG{fp:List Addr}{h:Heap}{b:Addr}{o:Obj}(hb:b∈fp)(e:h.get? b=some o):(b,o)∈gj fp h:=List.mem_filterMap.mpr ⟨b,hb,by rw[e];rfl⟩
theorem sC{fp:List Addr}{h:Heap}{p:Addr×Obj}(hp:p∈gj fp h):p.1∈fp∧h.get? p.1=some p.2:=by
 obtain⟨b,hb,e⟩:=List.mem_filterMap.mp hp
 cases q:h.get? b with
 |none=>rw[q]at e;cases e
 |some o=>
  rw[q]at e
  have e':(b,o)=p:=Option.some.inj e
  subst e'
  exact⟨hb,q⟩
theorem Inv.pinned{pins:List (Addr×Obj)}{σ:St}{H:Hp}{s:Shared}{fp:List Addr}(I:Inv X pins σ H s)(hf:∀b∈fp,g8 X pins H b)(ho:∀b∈fp,∃o,s.heap.get? b=some o∧∀v,o.data≠ .cell v):Inv X (pins++gj fp s.heap) σ H s:=
 I.pins_of fun p hp=>(Zao.mp hp).elim (fun z=>I.pin p (iD _ z)) fun z=>by
  obtain⟨hb,e⟩:=sC z
  obtain⟨f0,f1,f2,_⟩:=hf p.1 hb
  obtain⟨o,e',d⟩:=ho p.1 hb
  rw[e]at e';cases e'
  exact⟨e,f0,f1,f2,d⟩
theorem Inv.unpinned{pins pl:List (Addr×Obj)}{σ:St}{H:Hp}{s:Shared}(I:Inv X (pins++pl) σ H s):Inv X pins σ H s:=I.pins_of fun p hp=>I.pin p (iD _ (List.mem_append_left _ hp))
theorem za{iter:Expr}{body:List Stmt}{wi:TI}{g:TG}{tb:TS}{pos:Pos}(hp:PassesOwn (model X.prog X.w) X.A X.env X.xe)(hc:X.calm=true)(hi:PI X tg iter wi)(hg:PG X tg g)(hb:PSs X body tb)
  (hs:∀x,foldedSetIterable iter X.env x=pure x:=by intro _;rfl):PS X (.For tg iter body [] pos) (sy wi g tb):=by
 intro pins s σ H D I h
 refine wpAny_For (cr (hi pins s σ H _ I h) fun v s1 h1=>cr h1 fun itv s2 h2=>?_) hs
 obtain⟨it,fp,tn,J,H2,e,I2,T,st2,f2,W,⟨m0,w0⟩,turn⟩:=h2
 subst e
 -- what stays true of the iterator's objects through the mR
 have stat:∀{H':Hp},(∀b∈fp,H' b=none)→∀b∈fp,g8 X pins H' b:=fun hn b hb=>⟨hn b hb,(f2 b hb).2⟩
 refine codeAny_forLoop_any (fun n s'=>∃i σ' H',Inv X pins σ' H' s'∧tn i s'.heap∧(∀b∈fp,H' b=none)∧W i n σ' H') ?_ m0 ⟨0,σ,H2,I2,st2,fun b hb=>(f2 b hb).1,w0⟩
 rintro n s3 ⟨i,σ3,H3,I3,st3,fr3,w3⟩
 rcases turn i n σ3 H3 w3 with⟨stop,qn⟩ |⟨go,N,hN,step⟩
 ·refine wpAny_passesOwn hp (cr (T.done X rfl rfl rfl hc i pins s3 σ3 H3 X.xe I3 (stat fr3) st3 stop) fun r s4 ⟨hr,I4⟩=>?_)
  subst hr
  exact wpAny_execs_nil ⟨σ3,H3,I4,qn⟩
 ·refine wpAny_passesOwn hp (cr (T.item X rfl rfl rfl hc i pins s3 σ3 H3 X.xe I3 (stat fr3) st3 go) fun r s4 ⟨u,hr,h4⟩=>?_)
  subst hr
  refine wpAny_passesOwn hp (cr h4 fun _ s5 ⟨x,H5,I5,r5,y5,st5,fr5⟩=>?_)
  have I5':=I5.pinned (stat fr5) (T.obj _ _ st5)
  refine wpAny_passesOwn hp (cr (hg _ s5 σ3 H5 x u _ I5' r5 (step x H5 y5)) fun _ s6 ⟨σ6,H6,I6,q6⟩=>?_)
  refine wpAny_passesOwn hp (cr (hb _ s6 σ6 H6 _ I6 q6) fun f s7 q7=>?_)
  have again:∀{σ7:St} {H7:Hp},Inv X (pins++gj fp s5.heap) σ7 H7 s7→N σ7 H7→∃m,m < n∧∃i σ' H',Inv X pins σ' H' s7∧tn i s7.heap∧(∀b∈fp,H' b=none)∧W i m σ' H':=fun {σ7 H7} I7 n7=>by
   obtain⟨m',hm,w7⟩:=hN σ7 H7 n7
   refine⟨m',hm,i+1,σ7,H7,I7.unpinned,T.keep _ _ _ st5 fun b hb o e=>(I7.pin (b,o) (iD _ (iD _ (cG hb e)))).1,fun b hb=>?_,w7⟩
   obtain⟨o,e,d⟩:=T.obj _ _ st5 b hb
   exact(I7.pin (b,o) (iD _ (iD _ (cG hb e)))).2.1
  cases f with
  |next=>obtain⟨σ7,H7,I7,n7⟩:=q7;exact again I7 n7
  |cont=>obtain⟨σ7,H7,I7,n7⟩:=q7;exact again I7 n7
  |brk=>obtain⟨σ7,H7,I7,q7⟩:=q7;exact⟨σ7,H7,I7.unpinned,q7⟩
  |ret v=>obtain⟨x7,σ7,H7,I7,r7,q7⟩:=q7;exact⟨x7,σ7,H7,I7.unpinned,r7,q7⟩
end
end L2
namespace L2
open PySem PySem.Spec PyProof.Rows
abbrev R2:=V→V→Hp→VK→Prop
def OpR(X:Cx)(f:Value→Value→Sem Value)(r:R2):Prop:=
 ∀(pins:List (Addr×Obj)) (s:Shared) (σ:St) (H:Hp) (x y:V) (v u:Value) (Q:VK),Inv X pins σ H s→RelV x v→RelV y u→r x y H Q→
  wpAny (model X.prog X.w) X.A (f v u) (EP X pins σ Q) X.xe s
def Cd(X:Cx)(f:Value→Sem Value)(r:V→Hp→VK→Prop):Prop:=
 ∀(pins:List (Addr×Obj)) (s:Shared) (σ:St) (H:Hp) (x:V) (v:Value) (Q:VK),Inv X pins σ H s→RelV x v→r x H Q→
  wpAny (model X.prog X.w) X.A (f v) (EP X pins σ Q) X.xe s
def CallR(X:Cx)(f:Value)(r:List V→Hp→VK→Prop):Prop:=
 ∀(pins:List (Addr×Obj)) (s:Shared) (σ:St) (H:Hp) (xs:List V) (us:List Value) (Q:VK),Inv X pins σ H s→Vals xs us→r xs H Q→
  wpAny (model X.prog X.w) X.A (call f us) (EP X pins σ Q) X.xe s
def Ce(X:Cx)(r:V→Hp→(Bool→Hp→Prop)→Prop):Prop:=
 ∀(pins:List (Addr×Obj)) (s:Shared) (σ:St) (H:Hp) (x:V) (v:Value) (Q:Bool→Hp→Prop),Inv X pins σ H s→RelV x v→r x H Q→
  wpAny (model X.prog X.w) X.A (truthy v) (TP X pins σ Q) X.xe s
def AV(r:R2)(ta tb:TE):TE:=fun σ H Q=>ta σ H fun x H1=>tb σ H1 fun y H2=>r x y H2 Q
def CO(r:V→Hp→VK→Prop)(ta:TE):TE:=fun σ H Q=>ta σ H fun x H1=>r x H1 Q
def rI(C:Int→Int→Prop)(g:Int→Int→V):R2:=fun x y H Q=>∃i j,x=.int i∧y=.int j∧C i j∧Q (g i j) H
def yk(g:Int→Int→V):R2:=fun x y H Q=>∃i j,x=.int i∧y=.int j∧Q (g i j) H
def rU(g:Int→V):V→Hp→VK→Prop:=fun x H Q=>∃i,x=.int i∧Q (g i) H
section
variable {X:Cx} {a b c:Expr} {ta tb tc:TE} {pos:Pos}
theorem zb(ha:PE X a ta)(hb:PE X b tb){pins:List (Addr×Obj)}{s:Shared}{σ:St}{H:Hp}{R:V→V→Hp→Prop}(I:Inv X pins σ H s)
  (h:ta σ H fun x H1=>tb σ H1 fun y H2=>R x y H2) {Q:Value→Shared→Prop} {f:Value→Value→Sem Value}
  (hf:∀v u s2 x y H2,Inv X pins σ H2 s2→RelV x v→RelV y u→R x y H2→wpAny (model X.prog X.w) X.A (f v u) Q X.xe s2):
  wpAny (model X.prog X.w) X.A (eval a X.env) (fun v s₁=>wpAny (model X.prog X.w) X.A (eval b X.env) (fun u s₂=>wpAny (model X.prog X.w) X.A (f v u) Q X.xe s₂) X.xe s₁) X.xe s:=by
 refine cr (ha pins s σ H _ I h) fun v s1 ⟨x,H1,I1,r1,q1⟩=>?_
 refine cr (hb pins s1 σ H1 _ I1 q1) fun u s2 ⟨y,H2,I2,r2,q2⟩=>?_
 exact hf v u s2 x y H2 I2 r1 r2 q2
theorem AW{op:Operator}{r:R2}(ho:OpR X (binaryOp op) r)(ha:PE X a ta)(hb:PE X b tb):PE X (.BinOp a op b pos) (AV r ta tb):=by
 intro pins s σ H Q I h
 exact wpAny_BinOp (zb ha hb I h fun v u s2 x y H2 I2 rx ry q=>ho pins s2 σ H2 x y v u Q I2 rx ry q)
theorem AY{op:UnaryOp}{r:V→Hp→VK→Prop}(ho:Cd X (unaryOp op) r)(ha:PE X a ta):PE X (.UnaryOp op a pos) (CO r ta):=by
 intro pins s σ H Q I h
 exact UnaryOp_ (cr (ha pins s σ H _ I h) fun v s1 ⟨x,H1,I1,r1,q1⟩=>ho pins s1 σ H1 x v Q I1 r1 q1)
theorem AD{f:Value→Value→Sem Value}{C:Int→Int→Prop}{g:Int→Int→Int}
  (rule:∀(i j:Int) (t u:Tok) (s:Shared) (Q:Value→Shared→Prop) (E:Value→Shared→Prop),C i j→Q (.int (g i j) s.toks) {s with toks:=s.toks+1}→wpAny (model X.prog X.w) X.A (f (.int i t) (.int j u)) Q E s):
  OpR X f (rI C fun i j=>.int (g i j)):=by
 intro pins s σ H x y v u Q I rx ry h
 obtain⟨i,j,rfl,rfl,hc,q⟩:=h
 obtain⟨t,rfl⟩:=rx
 obtain⟨t',rfl⟩:=ry
 exact rule i j t t' s _ _ hc ⟨.int (g i j),H,I.tok _,⟨_,rfl⟩,q⟩
theorem AZ{f:Value→Value→Sem Value}{g:Int→Int→Int}
  (rule:∀(i j:Int) (t u:Tok) (s:Shared) (Q:Value→Shared→Prop) (E:Value→Shared→Prop),Q (.int (g i j) s.toks) {s with toks:=s.toks+1}→wpAny (model X.prog X.w) X.A (f (.int i t) (.int j u)) Q E s):
  OpR X f (yk fun i j=>.int (g i j)):=by
 intro pins s σ H x y v u Q I rx ry h
 obtain⟨i,j,rfl,rfl,q⟩:=h
 obtain⟨t,rfl⟩:=rx
 obtain⟨t',rfl⟩:=ry
 exact rule i j t t' s _ _ ⟨.int (g i j),H,I.tok _,⟨_,rfl⟩,q⟩
theorem wB{f:Value→Value→Sem Value}{g:Int→Int→Bool}
  (rule:∀(i j:Int) (t u:Tok) (s:Shared) (Q:Value→Shared→Prop) (E:Value→Shared→Prop),Q (.bool (g i j)) s→wpAny (model X.prog X.w) X.A (f (.int i t) (.int j u)) Q E s):
  OpR X f (yk fun i j=>.bl (g i j)):=by
 intro pins s σ H x y v u Q I rx ry h
 obtain⟨i,j,rfl,rfl,q⟩:=h
 obtain⟨t,rfl⟩:=rx
 obtain⟨t',rfl⟩:=ry
 exact rule i j t t' s _ _ ⟨.bl (g i j),H,I,rfl,q⟩
def zc(i j:Int):Prop:=0≤j∧j≤1000000∧i.natAbs < 2 ^ 64
def CMul(i j:Int):Prop:=(-(2 ^ 64) < i∧i < 2 ^ 64)∨(-(2 ^ 64) < j∧j < 2 ^ 64)
theorem CMul.ok{i j:Int}(h:CMul i j):IntMulOk i j:=by
 rcases h with⟨h1,h2⟩ |⟨h1,h2⟩
 ·exact .of_left (intBits_le_64 h1 h2)
 ·exact .of_right (intBits_le_64 h1 h2)
theorem p6(k:Nat):(0:Int)≤2 ^ k:=by
 rw[two_pow_cast]
 exact Int.natCast_nonneg _
theorem zd:OpR X (binaryOp .Add) (yk fun i j=>.int (i+j)):=AZ fun _ _ _ _ _ _ _ q=>add_int q
theorem ze:OpR X (binaryOp .Mod) (rI (fun _ j=>0 < j) fun i j=>.int (i % j)):=AD fun i j _ _ _ _ _ hc q=>by
 have h1:(0:Int) < j:=hc
 exact mod_int' (by omega) (by rw[Int.fmod_eq_emod_of_nonneg i (by omega)];exact q)
theorem zf:OpR X (binaryOp .Pow) (rI zc fun i j=>.int (i ^ j.toNat)):=AD fun _ _ _ _ _ _ _ hc q=>pow_int_small hc.1 hc.2.1 hc.2.2 q
theorem zg:OpR X (binaryOp .LShift) (rI zc fun i j=>.int (i*2 ^ j.toNat)):=AD fun _ _ _ _ _ _ _ hc q=>lshift_int_small hc.1 hc.2.1 hc.2.2 q
theorem zh:OpR X (binaryOp .RShift) (rI (fun _ j=>0≤j) fun i j=>.int (i / 2 ^ j.toNat)):=AD fun i j _ _ _ _ _ hc q=>
 rshift_int hc (by rw[Int.fdiv_eq_ediv_of_nonneg i (p6 _)];exact q)
theorem zi:OpR X (binaryOp .BitAnd) (yk fun i j=>.int (Builtin.bitAnd i j)):=AZ fun _ _ _ _ _ _ _ q=>and_int q
theorem CP{f:Value→Sem Value}{g:Int→Int}
  (rule:∀(i:Int) (t:Tok) (s:Shared) (Q:Value→Shared→Prop) (E:Value→Shared→Prop),Q (.int (g i) s.toks) {s with toks:=s.toks+1}→wpAny (model X.prog X.w) X.A (f (.int i t)) Q E s):
  Cd X f (rU fun i=>.int (g i)):=by
 intro pins s σ H x v Q I rx h
 obtain⟨i,rfl,q⟩:=h
 obtain⟨t,rfl⟩:=rx
 exact rule i t s _ _ ⟨.int (g i),H,I.tok _,⟨_,rfl⟩,q⟩
theorem zj:Cd X (unaryOp .USub) (rU fun i=>.int (-i)):=CP fun _ _ _ _ _ q=>neg_int q
end
def zk:V→V→Bool
 |.non,.non=>true |.non,.int _=>true |.int _,.non=>true |.non,.bl _=>true |.bl _,.non=>true |.non,.str _=>true |.str _,.non=>true
 |.int _,.int _=>true |.bl _,.bl _=>true |.str _,.str _=>true |.byt _,.byt _=>true
 |.int _,.str _=>true |.str _,.int _=>true |.bl _,.str _=>true |.str _,.bl _=>true
 |_,_=>false
def CC:R2:=fun x y H Q=>zk x y=true∧Q (.bl (decide (x=y))) H
def CD:R2:=fun x y H Q=>zk x y=true∧Q (.bl (!decide (x=y))) H
theorem qW{i j:Int}:decide (V.int i=V.int j)=(i == j):=by
 rw[Bool.eq_iff_iff]
 simp
theorem uq{i j:Bool}:decide (V.bl i=V.bl j)=(i == j):=by
 rw[Bool.eq_iff_iff]
 simp
theorem qX{i j:Str}:decide (V.str i=V.str j)=(i == j):=by
 rw[Bool.eq_iff_iff]
 simp
theorem qY{i j:Array UInt8}:decide (V.byt i=V.byt j)=(i.toList == j.toList):=by
 rw[Bool.eq_iff_iff]
 cases i
 cases j
 simp
section
variable {X:Cx} {a b c:Expr} {ta tb tc:TE} {pos:Pos}
theorem aH{pins:List (Addr×Obj)}{σ:St}{H:Hp}{s:Shared}{Q:VK}{k k':Bool}(I:Inv X pins σ H s)(q:Q (.bl k) H)(e:k=k'):EP X pins σ Q (.bool k') s:=by
 subst e
 exact⟨.bl k,H,I,rfl,q⟩
theorem ym:OpR X (compareOp .Eq) CC:=by
 intro pins s σ H x y v u Q I rx ry h
 obtain⟨hs,q⟩:=h
 cases x with
 |non=>
  cases rx
  cases y with
  |non=>cases ry;exact PySem.EqNone.eq_none_none (aH I q (by simp))
  |bl j=>cases ry;exact PySem.EqNone.eq_none_bool (aH I q (by simp))
  |int j=>obtain⟨t',rfl⟩:=ry;exact PySem.EqNone.eq_none_int (aH I q (by simp))
  |str j=>obtain⟨t',rfl⟩:=ry;exact PySem.EqNone.eq_none_str (aH I q (by simp))
  |_=>exact absurd (show false=true from hs) mQ
 |bl i=>
  cases rx
  cases y with
  |non=>cases ry;exact PySem.EqNone.eq_bool_none (aH I q (by simp))
  |bl j=>cases ry;exact eq_bool (aH I q uq)
  |str j=>obtain⟨t',rfl⟩:=ry;exact PySem.EqMixed.eq_bool_str (aH I q (by simp))
  |_=>exact absurd (show false=true from hs) mQ
 |int i=>
  obtain⟨t,rfl⟩:=rx
  cases y with
  |non=>cases ry;exact PySem.EqNone.eq_int_none (aH I q (by simp))
  |int j=>obtain⟨t',rfl⟩:=ry;exact eq_int (aH I q qW)
  |str j=>obtain⟨t',rfl⟩:=ry;exact PySem.EqMixed.eq_int_str (aH I q (by simp))
  |_=>exact absurd (show false=true from hs) mQ
 |str i=>
  obtain⟨t,rfl⟩:=rx
  cases y with
  |non=>cases ry;exact PySem.EqNone.eq_str_none (aH I q (by simp))
  |bl j=>cases ry;exact PySem.EqMixed.eq_str_bool (aH I q (by simp))
  |int j=>obtain⟨t',rfl⟩:=ry;exact PySem.EqMixed.eq_str_int (aH I q (by simp))
  |str j=>obtain⟨t',rfl⟩:=ry;exact eq_str (aH I q qX)
  |_=>exact absurd (show false=true from hs) mQ
 |byt i=>
  obtain⟨t,rfl⟩:=rx
  cases y with
  |byt j=>obtain⟨t',rfl⟩:=ry;exact PySem.W.eq_bytes (aH I q qY)
  |_=>exact absurd (show false=true from hs) mQ
 |_=>cases y <;> exact absurd (show false=true from hs) mQ
theorem A8:OpR X (compareOp .NotEq) CD:=by
 intro pins s σ H x y v u Q I rx ry h
 obtain⟨hs,q⟩:=h
 cases x with
 |non=>
  cases rx
  cases y with
  |non=>cases ry;exact PySem.EqNone.ne_none_none (aH I q (by simp))
  |bl j=>cases ry;exact PySem.EqNone.ne_none_bool (aH I q (by simp))
  |int j=>obtain⟨t',rfl⟩:=ry;exact PySem.EqNone.ne_none_int (aH I q (by simp))
  |str j=>obtain⟨t',rfl⟩:=ry;exact PySem.EqNone.ne_none_str (aH I q (by simp))
  |_=>exact absurd (show false=true from hs) mQ
 |bl i=>
  cases rx
  cases y with
  |non=>cases ry;exact PySem.EqNone.ne_bool_none (aH I q (by simp))
  |bl j=>cases ry;exact ne_bool (aH I q (congrArg not uq))
  |str j=>obtain⟨t',rfl⟩:=ry;exact PySem.EqMixed.ne_bool_str (aH I q (by simp))
  |_=>exact absurd (show false=true from hs) mQ
 |int i=>
  obtain⟨t,rfl⟩:=rx
  cases y with
  |non=>cases ry;exact PySem.EqNone.ne_int_none (aH I q (by simp))
  |int j=>obtain⟨t',rfl⟩:=ry;exact ne_int (aH I q (congrArg not qW))
  |str j=>obtain⟨t',rfl⟩:=ry;exact PySem.EqMixed.ne_int_str (aH I q (by simp))
  |_=>exact absurd (show false=true from hs) mQ
 |str i=>
  obtain⟨t,rfl⟩:=rx
  cases y with
  |non=>cases ry;exact PySem.EqNone.ne_str_none (aH I q (by simp))
  |bl j=>cases ry;exact PySem.EqMixed.ne_str_bool (aH I q (by simp))
  |int j=>obtain⟨t',rfl⟩:=ry;exact PySem.EqMixed.ne_str_int (aH I q (by simp))
  |str j=>obtain⟨t',rfl⟩:=ry;exact ne_str (aH I q (congrArg not qX))
  |_=>exact absurd (show false=true from hs) mQ
 |byt i=>
  obtain⟨t,rfl⟩:=rx
  cases y with
  |byt j=>obtain⟨t',rfl⟩:=ry;exact PySem.W.ne_bytes (aH I q (congrArg not qY))
  |_=>exact absurd (show false=true from hs) mQ
 |_=>cases y <;> exact absurd (show false=true from hs) mQ
theorem A9:OpR X (compareOp .Lt) (yk fun i j=>.bl (decide (i < j))):=wB fun _ _ _ _ _ _ _ q=>lt_int q
theorem A_:OpR X (compareOp .LtE) (yk fun i j=>.bl (decide (i≤j))):=wB fun _ _ _ _ _ _ _ q=>le_int q
theorem Ba:OpR X (compareOp .Gt) (yk fun i j=>.bl (decide (j < i))):=wB fun _ _ _ _ _ _ _ q=>gt_int q
theorem Bb:OpR X (compareOp .GtE) (yk fun i j=>.bl (decide (j≤i))):=wB fun _ _ _ _ _ _ _ q=>ge_int q
theorem sD:OpR X (compareOp .Lt) (fun x y H Q=>∃i j,x=.str i∧y=.str j∧Q (.bl (decide (i.cps.toList < j.cps.toList))) H):=by
 intro pins s σ H x y v u Q I rx ry h
 obtain⟨i,j,rfl,rfl,q⟩:=h
 obtain⟨t,rfl⟩:=rx
 obtain⟨t',rfl⟩:=ry
 exact lt_str (aH I q rfl)
theorem sE:OpR X (compareOp .In) (fun x y H Q=>∃i j,x=.str i∧y=.str j∧Q (.bl (!(Builtin.Str.occurrences j i 0 j.length 1).isEmpty)) H):=by
 intro pins s σ H x y v u Q I rx ry h
 obtain⟨i,j,rfl,rfl,q⟩:=h
 obtain⟨t,rfl⟩:=rx
 obtain⟨t',rfl⟩:=ry
 exact in_str (aH I q rfl)
theorem OpR.or{f:Value→Value→Sem Value}{r r':R2}(h:OpR X f r)(h':OpR X f r'):OpR X f (fun x y H Q=>r x y H Q∨r' x y H Q):=by
 intro pins s σ H x y v u Q I rx ry q
 rcases q with q |q
 ·exact h pins s σ H x y v u Q I rx ry q
 ·exact h' pins s σ H x y v u Q I rx ry q
theorem mT(b:Expr){op:CmpOp}(h:op≠ .In:=by decide)(h2:op≠ .NotIn:=by decide):behindInMarks op b=false:=by
 have e1:(op == CmpOp.In)=false:=by cases op <;> first |rfl |exact absurd rfl h
 have e2:(op == CmpOp.NotIn)=false:=by cases op <;> first |rfl |exact absurd rfl h2
 cases b <;> simp[behindInMarks,e1,e2]
theorem wC{op:CmpOp}{r:R2}(ho:OpR X (compareOp op) r)(ha:PE X a ta)(hb:PE X b tb)(hm:behindInMarks op b=false):PE X (.Compare a [op] [b] pos) (AV r ta tb):=by
 intro pins s σ H Q I h
 exact wpAny_Compare1 (zb ha hb I h fun v u s2 x y H2 I2 rx ry q=>ho pins s2 σ H2 x y v u Q I2 rx ry q) hm
def yn(t:TE):TT:=fun σ H Q=>t σ H fun x H'=>∃k,x=.bl k∧Q k H'
theorem wD{op:CmpOp}{r:R2}(ho:OpR X (compareOp op) r)(ha:PE X a ta)(hb:PE X b tb)(hm:behindInMarks op b=false):PT X (.Compare a [op] [b] pos) (yn (AV r ta tb)):=by
 intro pins s σ H Q I h
 refine wpAny_isTrue_Compare1 (cr (ha pins s σ H _ I h) fun v s1 ⟨x,H1,I1,r1,q1⟩=>cr (hb pins s1 σ H1 _ I1 q1) fun u s2 ⟨y,H2,I2,r2,q2⟩=>
  cr (ho pins s2 σ H2 x y v u _ I2 r1 r2 q2) fun c s3 ⟨z,H3,I3,r3,k,e,q3⟩=>?_) hm
 subst e
 cases r3
 exact wpAny_truthy_bool ⟨H3,I3,q3⟩
def p7(r r':R2)(ta tb tc:TE):TE:=fun σ H Q=>ta σ H fun x H1=>tb σ H1 fun y H2=>r x y H2 fun z H3=>∃k,z=.bl k∧
 (if k=true then tc σ H3 fun w' H4=>r' y w' H4 Q else Q (.bl false) H3)
theorem ur{op op':CmpOp}{r r':R2}(ho:OpR X (compareOp op) r)(ho':OpR X (compareOp op') r')(ha:PE X a ta)(hb:PE X b tb)(hc:PE X c tc)
  (hm:lastMarks [op,op'] [b,c]=false:=by with_unfolding_all rfl):PE X (.Compare a [op,op'] [b,c] pos) (p7 r r' ta tb tc):=by
 intro pins s σ H Q I h
 refine Compare_chain (cr (ha pins s σ H _ I h) fun v s1 ⟨x,H1,I1,r1,q1⟩=>chain_link (cr (hb pins s1 σ H1 _ I1 q1) fun u s2 ⟨y,H2,I2,r2,q2⟩=>
  cr (ho pins s2 σ H2 x y v u _ I2 r1 r2 q2) fun d s3 ⟨z,H3,I3,r3,k,e,q3⟩=>?_)) hm
 subst e
 cases r3
 refine wpAny_truthy_bool ?_
 cases k with
 |false=>exact ite_ff ⟨.bl false,H3,I3,rfl,q3⟩
 |true=>exact ite_tt (chain_last (cr (hc pins s3 σ H3 _ I3 q3) fun w' s4 ⟨z',H4,I4,r4,q4⟩=>ho' pins s4 σ H4 y z' u w' Q I4 r2 r4 q4))
theorem ut{op op':CmpOp}{r r':R2}(ho:OpR X (compareOp op) r)(ho':OpR X (compareOp op') r')(ha:PE X a ta)(hb:PE X b tb)(hc:PE X c tc)
  (hm:lastMarks [op,op'] [b,c]=false:=by with_unfolding_all rfl):PT X (.Compare a [op,op'] [b,c] pos) (yn (p7 r r' ta tb tc)):=by
 intro pins s σ H Q I h
 refine isTrue_chain (cr (ha pins s σ H _ I h) fun v s1 ⟨x,H1,I1,r1,q1⟩=>test_link (cr (hb pins s1 σ H1 _ I1 q1) fun u s2 ⟨y,H2,I2,r2,q2⟩=>
  cr (ho pins s2 σ H2 x y v u _ I2 r1 r2 q2) fun d s3 ⟨z,H3,I3,r3,k,e,q3⟩=>?_)) hm
 subst e
 cases r3
 refine wpAny_truthy_bool ?_
 cases k with
 |false=>
  obtain⟨k',e',q'⟩:=q3
  cases e'
  exact ite_ff ⟨H3,I3,q'⟩
 |true=>
  refine ite_tt (test_last (cr (hc pins s3 σ H3 _ I3 q3) fun w' s4 ⟨z',H4,I4,r4,q4⟩=>cr (ho' pins s4 σ H4 y z' u w' _ I4 r2 r4 q4) fun d' s5 ⟨z2,H5,I5,r5,k2,e2,q5⟩=>?_))
  subst e2
  cases r5
  exact wpAny_truthy_bool ⟨H5,I5,q5⟩
def oj(K:Frag)(x:V)(H:Hp)(k:Bool):Prop:=
 match x with
 |.non=>k=false
 |.bl b=>k=b
 |.int i=>k=(i != 0)
 |.str y=>y.length≤sizeLine∧k=((y.length:Int) != 0)
 |.byt y=>y.size≤sizeLine∧k=((y.size:Int) != 0)
 |.ref p=>(∃xs,SqL K H p xs∧k= !xs.isEmpty)∨(∃xs,SqT K H p xs∧k= !xs.isEmpty)∨∃kvs,H p=some (.dK kvs)∧k= !kvs.isEmpty
 |_=>False
theorem p8{κ:Type}{kvs:List (κ×V)}{vs:List (κ×Value)}(r:KV kvs vs):(!vs.isEmpty)= !kvs.isEmpty:=by
 cases r <;> rfl
theorem kj{xs:List V}{its:List Value}(r:Vals xs its):(!its.toArray.isEmpty)= !xs.isEmpty:=by
 cases r <;> simp
theorem i_:(sizeLine:Nat) < 2 ^ 63:=by rw[sizeLine_eq];decide
theorem p9:Ce X (fun x H Q=>∃k,oj X.K x H k∧Q k H):=by
 intro pins s σ H x v Q I rx h
 obtain⟨k,e,q⟩:=h
 have hl:=i_
 have hs:sizeLine=16777216:=sizeLine_eq
 cases x with
 |non=>
  cases rx
  have e':k=false:=e
  subst e'
  exact truthy_none ⟨H,I,q⟩
 |bl b=>
  cases rx
  have e':k=b:=e
  subst e'
  exact wpAny_truthy_bool ⟨H,I,q⟩
 |int i=>
  obtain⟨t,rfl⟩:=rx
  have e':k=(i != 0):=e
  subst e'
  exact PySem.P.truthy_int ⟨H,I,q⟩
 |str y=>
  obtain⟨t,rfl⟩:=rx
  obtain⟨hy,e'⟩:y.length≤sizeLine∧k=((y.length:Int) != 0):=e
  subst e'
  exact PySem.P.truthy_str (by omega) ⟨H,I.tok _,q⟩
 |byt y=>
  obtain⟨t,rfl⟩:=rx
  obtain⟨hy,e'⟩:y.size≤sizeLine∧k=((y.size:Int) != 0):=e
  subst e'
  exact PySem.W.truthy_bytes (by omega) ⟨H,I.tok _,q⟩
 |ref p=>
  cases rx
  have e':(∃xs,SqL X.K H p xs∧k= !xs.isEmpty)∨(∃xs,SqT X.K H p xs∧k= !xs.isEmpty)∨∃kvs,H p=some (.dK kvs)∧k= !kvs.isEmpty:=e
  rcases e' with⟨xs,hx,e'⟩ |⟨xs,hx,e'⟩ |⟨kvs,hx,e'⟩
  ·subst e'
   obtain⟨its,r,pl,hz⟩:=I.list hx
   have hlen:=r.length
   exact wpAny_truthy_list pl.isList (by simp only[jE];omega) ⟨H,I.tok _,by rw[kj r];exact q⟩
  ·subst e'
   obtain⟨its,r,pl,hz⟩:=I.tuple hx
   have hlen:=r.length
   exact truthy_tuple pl (by simp only[jE];omega) ⟨H,I.tok _,by rw[kj r];exact q⟩
  ·subst e'
   obtain⟨hz,hS,vs,r,m⟩:kvs.length≤sizeLine∧(p == sysModules)=false∧∃vs,KV kvs vs∧s.heap.DictOf (j4 X.prog X.w) p vs:=I.hok p _ hx
   have hlen:kvs.length=vs.length:=Paired.length r
   exact wpAny_truthy_dict hS m (by omega) ⟨H,I.tok _,by rw[p8 r];exact q⟩
 |_=>exact(show False from e).elim
theorem uu(ha:PE X a ta)(he:∀whole,isTrue a X.env whole=(do let v ←whole;standAt a.pos;holding [v] (truthy v))):
  PT X a (fun σ H Q=>ta σ H fun x H'=>∃k,oj X.K x H' k∧Q k H'):=by
 intro pins s σ H Q I h
 exact isTrue_plain (cr (ha pins s σ H _ I h) fun v s1 ⟨x,H1,I1,r1,q1⟩=>p9 pins s1 σ H1 x v Q I1 r1 q1) (he _)
theorem p_:OpR X (binaryOp .Add) (fun x y H Q=>∃i j,x=.str i∧y=.str j∧i.length+j.length≤sizeLine∧Q (.str (i++j)) H):=by
 intro pins s σ H x y v u Q I rx ry h
 obtain⟨i,j,rfl,rfl,hz,q⟩:=h
 obtain⟨t,rfl⟩:=rx
 obtain⟨t',rfl⟩:=ry
 exact add_str (fun t' tk=>⟨.str (i++j),H,I.tok _,⟨_,rfl⟩,q⟩) hz
theorem uv{x:V}{us:List Value}(r:Vals [x] us):∃u,us=[u]∧RelV x u:=by
 cases r with
 |cons r1 r2=>cases r2;exact⟨_,rfl,r1⟩
theorem Bc{x y:V}{us:List Value}(r:Vals [x,y] us):∃u w',us=[u,w']∧RelV x u∧RelV y w':=by
 cases r with
 |cons r1 r2=>
  cases r2 with
  |cons r3 r4=>cases r4;exact⟨_,_,rfl,r1,r3⟩
theorem sG(hc:X.calm=true):CallR X (.builtin "min") (fun xs H Q=>∃i j,xs=[.int i,.int j]∧Q (.int (if j < i then j else i)) H):=by
 intro pins s σ H xs us Q I r h
 obtain⟨i,j,rfl,q⟩:=h
 obtain⟨u,w',rfl,⟨t,rfl⟩,⟨t',rfl⟩⟩:=Bc r
 refine min_two_ints (I.ok.hd hc) fun h' tk k=>⟨_,H,I.kept k,?_,q⟩
 by_cases hj:j < i
 ·rw[if_pos hj,if_pos hj];exact⟨_,rfl⟩
 ·rw[if_neg hj,if_neg hj];exact⟨_,rfl⟩
end
end L2
namespace L2
open PySem PySem.Spec PyProof.Rows
structure ObjM (h:Heap) (x dx C:Addr) (mA:Str→Option Value):Prop where
 obj:h.get? x=some (instObj C dx)
 ns:h.Ns1 dx mA
 ne:dx≠x
theorem sH{h:Heap}{dx:Addr}{mA:Str→Option Value}(n:h.Ns1 dx mA):∃od,h.get? dx=some od∧∀name,lookIn name od=some (mA name):=by
 obtain⟨o,es,ep,ho,hd,hk,_,hm⟩:=n
 refine⟨o,ho,fun name=>?_⟩
 have e:=hm name
 unfold nsFind findBy at e
 rw[←Array.find?_toList]at e
 unfold lookIn
 rw[hd]
 dsimp only
 split
 ·rename_i y q
  rw[q]at e
  exact congrArg some e
 ·rename_i q
  rw[q]at e
  have a:es.toList.any (·.refKey)=false:=by
   rw[List.any_eq_false]
   intro y hy
   obtain⟨z,t,hkey⟩:=hk y (Array.mem_toList_iff.mp hy)
   simp[DictEntry.refKey,hkey]
  have a':¬es.toList.any (·.refKey)=true:=by rw[a];exact mQ
  rw[if_neg a']
  exact congrArg some e
theorem ObjM.look{h:Heap}{x dx C:Addr}{mA:Str→Option Value}(I:ObjM h x dx C mA):∃od,PySem.W.InstAt h x (instObj C dx) C (some od)∧∀name,lookIn name od=some (mA name):=
 let ⟨od,ho,hl⟩:=sH I.ns
 ⟨od,⟨I.obj,rfl,rfl,ho⟩,hl⟩
section
variable {P:Program} {w:World} {H H':Hp} {h h':Heap} {a C dx:Addr} {fs fs':List (Str×V)}
theorem wE(hok:HOk P w H h)(e:H a=some (.ins C dx fs)):∃mA,ObjM h a dx C mA∧(∀f,RelO (fs.lookup f) (mA f))∧PySem.Within mA (fs.map (·.1))∧fs.length≤1000∧H dx=some (.own a):=by
 obtain⟨d,z,ne,ob,mA,n,r,q⟩:=(show ObjOk P w H h a (.ins C dx fs)from hok a _ e)
 exact⟨mA,⟨ob,n,ne⟩,r,q,z,d⟩
end
structure Cls (K:Frag) (C:Addr):Prop where
 pg:PySem.W.plainGet K C Str.empty=true
 hd:PySem.W.hasDictIn K C=true
 po:PySem.W.plainOver K C=true
 sa:PySem.W.findIn K (.ref C) "__setattr__"=some (some (.builtin "object.__setattr__"))
theorem Cls.get{K:Frag}{C:Addr}(c:Cls K C)(f:Str):PySem.W.plainGet K C f=true:=c.pg
section
variable {X:Cx} {pins:List (Addr×Obj)} {σ:St} {H:Hp} {s:Shared} {a C dx:Addr} {fs:List (Str×V)} {f:Str} {v:V} {A:Around} {E:Value→Shared→Prop}
theorem Inv.made(I:Inv X pins σ H s):Inv X pins σ (upd (upd H s.heap.objs.size (.own (s.heap.objs.size+1))) (s.heap.objs.size+1) (.ins C s.heap.objs.size []))
  {s with heap:=(s.heap.push emptyDict).push (instObj C s.heap.objs.size)}:=by
 have e1:(s.heap.push emptyDict).get? s.heap.objs.size=some emptyDict:=gE s.heap rfl
 have e2:((s.heap.push emptyDict).push (instObj C s.heap.objs.size)).get? (s.heap.objs.size+1)=some (instObj C s.heap.objs.size):=by
  have:=gE (s.heap.push emptyDict) (o:=instObj C s.heap.objs.size) rfl
  rwa [Heap.size_push]at this
 have e3:(s.heap.push emptyDict).Ns s.heap.objs.size (fun _=>none):=⟨emptyDict,#[],_,e1,rfl,(fun e he=>absurd he (by simp)),fun _=>rfl⟩
 have I1:=I.laid (a:=s.heap.objs.size) (o:=.own (s.heap.objs.size+1)) (h':=s.heap.push emptyDict) (t':=s.toks) (fun b u q=>dI _ q) (dw _) ⟨_,e1⟩
 refine I1.laid (a:=s.heap.objs.size+1) (o:=.ins C s.heap.objs.size []) (t':=s.toks) (fun b u q=>dI _ q) (Nat.le_of_eq (Heap.size_push _ _)) ?_
 have ne:s.heap.objs.size≠s.heap.objs.size+1:=eT (Nat.lt_succ_self _)
 refine⟨by rw[aD ne,bF],Nat.zero_le _,ne,e2,fun _=>none,(Heap.Ns1.of_empty e3).at fun o q=>dI _ q,fun _=>True.intro,fun y hy=>absurd rfl hy⟩
end
section
variable {X:Cx} {pins:List (Addr×Obj)} {σ:St} {H:Hp} {s:Shared} {A:Around} {E:Value→Shared→Prop} {Q:Value→Shared→Prop} {c:Value} {b:Bool}
inductive TyOf (K:Frag) (H:Hp):V→Value→Prop where
 |non:TyOf K H .non (.type "NoneType")
 |bl (x:Bool):TyOf K H (.bl x) (.type "bool")
 |int (i:Int):TyOf K H (.int i) (.type "int")
 |str (x:Str):TyOf K H (.str x) (.type "str")
 |flt (x:UInt64):TyOf K H (.flt x) (.type "float")
 |lst {a:Addr} {xs:List V} (e:H a=some (.lst xs)):TyOf K H (.ref a) (.type "list")
 |frz {a:Addr} {o:Obj} {xs:List V} (e:H a=some (.frz o (.lst xs))):TyOf K H (.ref a) (.type "list")
 |tup {a:Addr} {xs:List V} (e:H a=some (.tup xs)):TyOf K H (.ref a) (.type "tuple")
 |dK {a:Addr} {kvs:List (cU×V)} (e:H a=some (.dK kvs)):TyOf K H (.ref a) (.type "dict")
 |dT {a:Addr} {kvs:List (List cU×V)} (e:H a=some (.dT kvs)):TyOf K H (.ref a) (.type "dict")
 |ins {a C dx:Addr} {fs:List (Str×V)} (e:H a=some (.ins C dx fs)) (cl:Cls K C) (ha:PySem.W.findIn K (.ref C) "__class__"=some (some (.builtin "object.__class__")))
   (hn:PySem.W.specialIn K (.builtin "object.__class__") "__get__"=some (some (.builtin "getset_descriptor.__get__"))) (htk:PySem.W.takesIn K (.builtin "object.__class__")=some true)
   (hm:PySem.W.mroIn K C (.type "object")=some true):TyOf K H (.ref a) (.ref C)
theorem gH{x:V}{u t:Value}(I:Inv X pins σ H s)(rx:RelV x u)(ty:TyOf X.K H x t)(e:PySem.W.kitOne X.K t c=some b)(h:∀tk,Q (.bool b) {s with toks:=tk}):
  wpAny (model X.prog X.w) A (call (.builtin "isinstance") [u,c]) Q E s:=by
 cases ty with
 |non=>cases(show u=Value.none from rx);exact kia_one PySem.W.kitx_none I.kIn True.intro e (fun z=>nomatch z) h
 |bl y=>cases(show u=Value.bool y from rx);exact kia_one PySem.W.kitx_bool I.kIn True.intro e (fun z=>nomatch z) h
 |int i=>obtain⟨t,q⟩:=(show ∃t,u=Value.int i t from rx);cases q;exact kia_one PySem.W.kitx_int I.kIn True.intro e (fun z=>nomatch z) h
 |str y=>obtain⟨t,q⟩:=(show ∃t,u=Value.str y t from rx);cases q;exact kia_one PySem.W.kitx_str I.kIn True.intro e (fun z=>nomatch z) h
 |flt y=>obtain⟨t,q⟩:=(show ∃t,u=Value.float y t from rx);cases q;exact kia_one PySem.W.kitx_float I.kIn True.intro e (fun z=>nomatch z) h
 | @lst a xs ea=>
  cases(show u=Value.ref a from rx)
  obtain⟨_,_,n,_,h1⟩:=(show ObjOk X.prog X.w H s.heap a (.lst xs)from I.hok a _ ea)
  exact kia_one kitx_list I.kIn ⟨_,h1,rfl⟩ e (fun z=>nomatch z) h
 | @frz a ob xs ea=>
  cases(show u=Value.ref a from rx)
  obtain⟨_,_,_,n,_,h1⟩:=(show ObjOk X.prog X.w H s.heap a (.frz ob (.lst xs))from I.hok a _ ea)
  exact kia_one kitx_list I.kIn ⟨_,h1,rfl⟩ e (fun z=>nomatch z) h
 | @tup a xs ea=>
  cases(show u=Value.ref a from rx)
  obtain⟨_,_,_,p⟩:=(show ObjOk X.prog X.w H s.heap a (.tup xs)from I.hok a _ ea)
  obtain⟨o,h1,h2,_⟩:=p
  exact kia_one PySem.W.kitx_tuple I.kIn ⟨o,h1,h2⟩ e (fun z=>nomatch z) h
 | @dK a kvs ea=>
  cases(show u=Value.ref a from rx)
  obtain⟨_,_,vs,_,p⟩:=(show ObjOk X.prog X.w H s.heap a (.dK kvs)from I.hok a _ ea)
  obtain⟨o,es,ep,h1,h2,_⟩:=p
  exact kia_one kitx_dict I.kIn ⟨o,h1,h2.1⟩ e (fun z=>nomatch z) h
 | @dT a kvs ea=>
  cases(show u=Value.ref a from rx)
  obtain⟨_,_,xs,_,o,es,ep,h1,h2,_⟩:=(show ObjOk X.prog X.w H s.heap a (.dT kvs)from I.hok a _ ea)
  exact kia_one kitx_dict I.kIn ⟨o,h1,h2.1⟩ e (fun z=>nomatch z) h
 | @ins a C dx fs ea cl ha hn htk hm=>
  cases(show u=Value.ref a from rx)
  obtain⟨mA,O,_⟩:=wE I.hok ea
  obtain⟨od,J,_⟩:=O.look
  exact kia_one (PySem.W.kitx_own (cl.get _) cl.hd ha hn htk hm) I.kIn J e (fun z=>nomatch z) h
end
end L2
namespace L2
open PySem PySem.Spec PyProof.Rows
structure Room (k:Nat) (A:Around):Prop where
 hd:A.handled=none
 dp:A.depth+3*k+5 < recursionLimit
 un:A.units+16*k+200 < cLine
theorem Room.mono{j k:Nat}{A:Around}(r:Room k A)(h:j≤k):Room j A:=⟨r.hd,by have:=r.dp;omega,by have:=r.un;omega⟩
theorem Room.deeper{k:Nat}{A:Around}(r:Room (k+1) A)(env:Env):Room k (A.deeper env):=
 ⟨r.hd,by have:=r.dp;show A.depth+1+3*k+5 < _;omega,by have:=r.un;show A.units+3+16*k+200 < _;omega⟩
theorem Room.in1{k:Nat}{A:Around}(r:Room (k+1) A):Room k A.in1:=
 ⟨r.hd,by have:=r.dp;show A.depth+3*k+5 < _;omega,by have:=r.un;show A.units+1+16*k+200 < _;omega⟩
theorem Room.depth{k:Nat}{A:Around}(r:Room k A):A.depth < recursionLimit:=by have:=r.dp;omega
theorem Room.units{k:Nat}{A:Around}(r:Room k A):A.units+64 < cLine:=by have:=r.un;omega
def wF:TA:=fun _ H Q=>Q [] H
def jG(ta:TE)(tr:TA):TA:=fun σ H Q=>ta σ H fun x H1=>tr σ H1 fun xs H2=>Q (x::xs) H2
section
variable {X:Cx} {e:Expr} {es:List Expr} {te:TE} {t:TA} {pos:Pos}
theorem eW:PA X [] wF:=fun _ _ _ _ H Q I h=>Calls.spliced_nil ⟨[],H,I,.nil,h⟩
theorem cV(ha:PE X e te)(hr:PA X es t)(hs:starEach (e::es) X.env=(false,eval e X.env)::starEach es X.env:=by rfl):PA X (e::es) (jG te t):=by
 intro pos pins s σ H Q I h
 rw[hs]
 show wpAny _ _ (spliced ((false,eval e X.env)::backTo pos (starEach es X.env))) _ _ s
 refine Calls.spliced_cons (cr (ha pins s σ H _ I h) fun u s1 ⟨x,H1,I1,r1,q1⟩=>?_)
 exact cr (hr pos pins s1 σ H1 _ I1 q1) fun us s2 ⟨xs,H2,I2,r2,q2⟩=>⟨x::xs,H2,I2,.cons r1 r2,q2⟩
def Cf(t:TA):TE:=fun σ H Q=>t σ H fun xs H1=>xs.length≤sizeLine∧∀p,H1 p=none→Q (.ref p) (upd H1 p (.tup xs))
def Cg(t:TA):TE:=fun σ H Q=>t σ H fun xs H1=>xs.length≤sizeLine∧∀p,H1 p=none→Q (.ref p) (upd H1 p (.lst xs))
theorem zl{x1}(h:PA X es t):PE X (.Tuple es x1 pos) (Cf t):=by
 intro pins s σ H Q I hq
 refine wpAny_Tuple_spliced (cr (h pos pins s σ H _ I hq) fun us s1 ⟨xs,H1,I1,r,z,q⟩=>⟨by rw[←r.length];exact z,?_⟩)
 have hf:H1 s1.heap.objs.size=none:=I1.hok.fresh (dw _)
 refine⟨.ref s1.heap.objs.size,upd H1 s1.heap.objs.size (.tup xs),I1.laid (t':=s1.toks) (fun b u e=>dI _ e) (dw _) ?_,rfl,q _ hf⟩
 exact⟨z,us,r,⟨_,gE _ rfl,rfl,_,rfl⟩⟩
theorem zn(h:PA X es t):PE X (.List es pos) (Cg t):=by
 intro pins s σ H Q I hq
 refine wpAny_List_spliced (cr (h pos pins s σ H _ I hq) fun us s1 ⟨xs,H1,I1,r,z,q⟩=>⟨by rw[←r.length];exact z,?_⟩)
 have hf:H1 s1.heap.objs.size=none:=I1.hok.fresh (dw _)
 refine⟨.ref s1.heap.objs.size,upd H1 s1.heap.objs.size (.lst xs),I1.laid (t':=s1.toks) (fun b u e=>dI _ e) (dw _) ?_,rfl,q _ hf⟩
 exact⟨z,us,0,r,gE _ rfl⟩
end
abbrev Sp:=List V→Hp→VK→XK→Prop
abbrev qZ:=List Env→Hp→Shared→XK→Value→Shared→Prop
structure Env0 (P:Program) (w:World) (K:Frag) (mg:Str→Option Value) (base:Heap) (A:Around) (outer:List Env) (s:Shared) (H:Hp):Prop where
 frames:A.frames=some outer
 mod:Mod K mg base
 bs:∀b o,base.get? b=some o→s.heap.get? b=some o∧H b=none
 bsz:base.objs.size≤s.heap.objs.size
 funs:s.heap.FunFrames base outer
 frf:∀b∈sr outer,H b=none
 hok:HOk P w H s.heap
 bare:AllBare s.gens
 tab:∀b q,jS K b=some q→H b=some (.tbl q)
def CE(outer:List Env)(P:Program)(w:World)(H:Hp)(s:Shared)(Q:VK)(u:Value)(s':Shared):Prop:=
 ∃v H',s'.os=s.os∧AllBare s'.gens∧Un (sr outer) [] H H' s.heap s'.heap∧HOk P w H' s'.heap∧RelV v u∧Q v H'
def CR(CX:qZ)(outer:List Env)(P:Program)(w:World)(H:Hp)(s:Shared)(Q:VK)(E:XK)(r:Result)(s':Shared):Prop:=
 match r with
 |.ok (.ret u)=>CE outer P w H s Q u s'
 |.ok _=>False
 |.error e=>CX outer H s E e s'
structure FnOk (P:Program) (w:World) (K:Frag) (mg:Str→Option Value) (base:Heap) (CX:qZ) (k:Nat) (f:Addr) (fd:FuncData) (ps:List Str) (sp:Sp):Prop where
 len:∀vs H Q E,sp vs H Q E→vs.length=ps.length
 run:∀(A:Around) (outer:List Env) (s:Shared) (H:Hp) (args:Args) (us:List Value) (vs:List V) (Q:VK) (E:XK),Room k A→Env0 P w K mg base A outer s H→BindsTo s fd args (ps.zip us)→Vals vs us→sp vs H Q E→
  codeAny (model P w) A (.call (.ref f) args) (CR CX outer P w H s Q E) s
theorem FnOk.mono{P:Program}{w:World}{K:Frag}{mg:Str→Option Value}{base:Heap}{CX:qZ}{j k:Nat}{f:Addr}{fd:FuncData}{ps:List Str}{sp:Sp}(F:FnOk P w K mg base CX j f fd ps sp)(h:j≤k):
  FnOk P w K mg base CX k f fd ps sp:=⟨F.len,fun A outer s H args us vs Q E hr=>F.run A outer s H args us vs Q E (hr.mono h)⟩
theorem FnOk.imp{P:Program}{w:World}{K:Frag}{mg:Str→Option Value}{base:Heap}{CX:qZ}{k:Nat}{f:Addr}{fd:FuncData}{ps:List Str}{sp sp':Sp}(F:FnOk P w K mg base CX k f fd ps sp)
  (h:∀vs H Q E,sp' vs H Q E→sp vs H Q E):FnOk P w K mg base CX k f fd ps sp':=
 ⟨fun vs H Q E q=>F.len vs H Q E (h _ _ _ _ q),fun A outer s H args us vs Q E hr he hb hv hs=>F.run A outer s H args us vs Q E hr he hb hv (h _ _ _ _ hs)⟩
theorem Env0.in1{P:Program}{w:World}{K:Frag}{mg:Str→Option Value}{base:Heap}{A:Around}{outer:List Env}{s:Shared}{H:Hp}(e:Env0 P w K mg base A outer s H):
  Env0 P w K mg base A.in1 outer s H:=⟨e.frames,e.mod,e.bs,e.bsz,e.funs,e.frf,e.hok,e.bare,e.tab⟩
section
variable {X:Cx} {pins:List (Addr×Obj)} {σ:St} {H:Hp} {s s':Shared}
theorem Inv.env0(I:Inv X pins σ H s):Env0 X.prog X.w X.K X.mg X.base X.A X.stack s H:=
 ⟨I.ok.frames,I.ok.mod,I.bs,gG I.ok.bsz I.sz,I.stack,I.stkFree,I.hok,I.bare,I.tab⟩
theorem Inv.after{Q:VK}{u:Value}(I:Inv X pins σ H s)(h:CE X.stack X.prog X.w H s Q u s'):EP X pins σ Q u s':=by
 obtain⟨v,H',os,bare,un,hok,r,q⟩:=h
 obtain⟨hh,g,d,t,os'⟩:=s'
 obtain rfl:os'=s.os:=os
 exact⟨v,H',I.call (h':=hh) (g':=g) (d':=d) (t':=t) (ch:=[]) un hok bare (fun b z=>absurd z (by simp)),r,q⟩
end
def kl(sp:Sp)(dvs:List V)(E:XK)(t:TA):TE:=fun σ H Q=>t σ H fun vs H1=>sp (vs++dvs) H1 Q E
def Binds(K:Frag)(fd:FuncData)(ps:List Str)(ds:List Value):Prop:=
 ∀(s:Shared) (us:List Value),K.In s.heap→(us++ds).length=ps.length→BindsTo s fd ⟨us,[]⟩ (ps.zip (us++ds))
theorem Binds.all{K:Frag}{fd:FuncData}{ps:List Str}(h:∀us:List Value,us.length=ps.length→bindArgs fd ⟨us,[]⟩=pure (ps.zip us)):Binds K fd ps []:=fun s us _ hl=>by
 rw[List.append_nil]at hl ⊢
 exact .of_eq (h us hl)
def qa(CX:qZ)(X:Cx)(E:XK):Prop:=∀(pins:List (Addr×Obj)) (σ:St) (H:Hp) (s:Shared) (e:Value) (s':Shared),Inv X pins σ H s→CX X.stack H s E e s'→X.xe e s'
section
variable {X:Cx} {CX:qZ} {k:Nat} {f C:Addr} {fd:FuncData} {ps:List Str} {sp:Sp} {dvs:List V} {ds:List Value} {E:XK} {x m:Str} {p pos apos:Pos} {e o:Expr} {es:List Expr} {ta:TE} {t:TA}
theorem uw{pins:List (Addr×Obj)}{σ:St}{H:Hp}{s:Shared}{Q:VK}{us:List Value}{vs:List V}(F:FnOk X.prog X.w X.K X.mg X.base CX k f fd ps sp)(hr:Room k X.A)(hb:Binds X.K fd ps ds)(hd:Vals dvs ds)(hx:qa CX X E)
  (I:Inv X pins σ H s) (r:Vals vs us) (h:sp (vs++dvs) H Q E):wpAny (model X.prog X.w) X.A (call (.ref f) us) (EP X pins σ Q) X.xe s:=by
 have r2:Vals (vs++dvs) (us++ds):=r.append hd
 have hl:(us++ds).length=ps.length:=by rw[←r2.length];exact F.len _ _ _ _ h
 refine wpAny_call (codeAny_mono (F.run X.A X.stack s H ⟨us,[]⟩ (us++ds) (vs++dvs) Q E hr I.env0 (hb s us I.kIn hl) r2 h) fun r s' hq=>?_)
 cases r with
 |error e=>exact hx pins σ H s e s' I hq
 |ok fl=>
  cases fl with
  |ret u=>exact I.after hq
  |next=>exact False.elim hq
  |brk=>exact False.elim hq
  |cont=>exact False.elim hq
theorem wG(F:FnOk X.prog X.w X.K X.mg X.base CX k f fd ps sp)(hr:Room k X.A)(hg:Gl X x)(hm:X.mg x=some (.ref f))(hk:keepIn X.K (.ref f)=true)(hb:Binds X.K fd ps ds)(hd:Vals dvs ds)(hx:qa CX X E)
  (ha:PA X (e::es) t) (hdb:(x == ("__debug__":Str))=false:=by decide) (he:starEach (e::es) X.env=(false,eval e X.env)::starEach es X.env:=by rfl) (hpl:(backTo pos (starEach es X.env)).any (·.1)=false:=by rfl):
  PE X (.Call (.Name x p) (e::es) [] pos) (kl sp dvs E t):=by
 intro pins s σ H Q I h
 refine wpAny_Call_Name_kw (j5 I hg hm ?_ hdb)
 refine callWith_K (h₀:=X.base) I.ok.mod.kin hk (cr (ha pos pins s σ H _ I h) fun us s1 ⟨vs,H1,I1,r,q⟩=>⟨I1.kIn,?_⟩) he hpl
 exact uw F hr hb hd hx I1 r q
end
structure FnScope (N P:List Str) (sc:Scope):Prop where
 kind:sc.kind=.function
 co:sc.isCoroutine=false
 gen:sc.isGenerator=false
 nd:N.Nodup
 pre:N.take P.length=P
 par:∀x∈P,sc.names.lookup x=some .local∨sc.names.lookup x=some .cell
 nofree:∀y∈sc.names,y.2≠ .free
theorem lX{kindOf:Str→Option NameKind}{x:Str}:∀{binds:List (Str×Value)} {m:Str→Option Value},(∀v,(x,v)∉binds)→bindL kindOf binds m x=m x
 |[],_,_=>rfl
 |(n,v)::r,m,h=>by
  unfold bindL
  rw[lX fun w hw=>h w (fD _ hw)]
  split
  ·have:x≠n:=by rintro rfl;exact h v f_
   simp[this]
  ·rfl
theorem lY{kindOf:Str→Option NameKind}{x:Str}:∀{binds:List (Str×Value)} {m:Str→Option Value},(∀v,(x,v)∉binds)→bindC kindOf binds m x=m x
 |[],_,_=>rfl
 |(n,v)::r,m,h=>by
  unfold bindC
  rw[lY fun w hw=>h w (fD _ hw)]
  split
  ·rfl
  ·have:x≠n:=by rintro rfl;exact h v f_
   simp[this]
theorem lZ{kindOf:Str→Option NameKind}{x:Str}{v:Value}:∀{P:List Str} {vs:List Value} {i:Nat} {m:Str→Option Value},P.Nodup→P[i]? =some x→vs[i]? =some v→kindOf x=some .local→
  bindL kindOf (P.zip vs) m x=some v
 |[],_,_,_,_,h,_,_=>by simp at h
 |_::_,[],_,_,_,_,h,_=>by simp at h
 |p::P,w::vs,0,m,nd,h1,h2,hk=>by
  simp at h1 h2;subst h1;subst h2
  show bindL kindOf ((p,w)::P.zip vs) m p=_
  unfold bindL
  rw[lX fun v hv=>(List.nodup_cons.mp nd).1 (List.of_mem_zip hv).1,if_pos hk]
  simp
 |p::P,w::vs,i+1,m,nd,h1,h2,hk=>by
  show bindL kindOf ((p,w)::P.zip vs) m x=_
  unfold bindL
  exact lZ (i:=i) (List.nodup_cons.mp nd).2 (by simpa using h1) (by simpa using h2) hk
theorem l5{kindOf:Str→Option NameKind}{x:Str}{v:Value}:∀{P:List Str} {vs:List Value} {i:Nat} {m:Str→Option Value},P.Nodup→P[i]? =some x→vs[i]? =some v→kindOf x≠some .local→
  bindC kindOf (P.zip vs) m x=some v
 |[],_,_,_,_,h,_,_=>by simp at h
 |_::_,[],_,_,_,_,h,_=>by simp at h
 |p::P,w::vs,0,m,nd,h1,h2,hk=>by
  simp at h1 h2;subst h1;subst h2
  show bindC kindOf ((p,w)::P.zip vs) m p=_
  unfold bindC
  rw[lY fun v hv=>(List.nodup_cons.mp nd).1 (List.of_mem_zip hv).1,if_neg hk]
  simp
 |p::P,w::vs,i+1,m,nd,h1,h2,hk=>by
  show bindC kindOf ((p,w)::P.zip vs) m x=_
  unfold bindC
  exact l5 (i:=i) (List.nodup_cons.mp nd).2 (by simpa using h1) (by simpa using h2) hk
def dg(N:List Str)(vs:List V):St:=vs.map some++List.replicate (N.length - vs.length) none
def g9(CX:qZ)(P:Program)(w:World)(K:Frag)(mg:Str→Option Value)(base:Heap)(N:List Str)(qual:Str)(scope:Scope)(f:Addr)(cd:Value)(A:Around)(outer:List Env)(s:Shared)(H:Hp)(E:XK):Cx where
 prog:=P
 w:=w
 K:=K
 mg:=mg
 base:=base
 A:=A.deeper (envOfC qual scope s.heap.objs.size f cd)
 N:=N
 s₀:=s
 H₀:=H
 env:=envOfC qual scope s.heap.objs.size f cd
 outer:=outer
 stack:=envOfC qual scope s.heap.objs.size f cd::outer
 ex:=[]
 calm:=true
 fn:=fun _=>true
 pn:=[]
 xe:=fun e s'=>wpAny (model P w) (A.deeper (envOfC qual scope s.heap.objs.size f cd)) (leaving (envOfC qual scope s.heap.objs.size f cd) e) (fun _ s''=>CX outer H s E e s'') (fun e' s''=>CX outer H s E e' s'') s'
theorem om{sc:Scope}{n:Nat}{x:Str}(h:sc.names.lookup x=some .cell):∃c,(cellsFrom n sc.names []).lookup x=some c:=by
 have q:=cellsFrom_some sc.names n [] (.inl h)
 exact Option.isSome_iff_exists.mp q
theorem l6{CX:qZ}{P:Program}{w:World}{K:Frag}{mg:Str→Option Value}{base:Heap}{N ps:List Str}{qual:Str}{scope:Scope}{f:Addr}{cd:Value}{A:Around}{outer:List Env}{s s1:Shared}{H:Hp}{E:XK}{us:List Value}{vs:List V}
  (S:FnScope N ps scope) (hd:A.handled=none) (e0:Env0 P w K mg base A outer s H) (hl:vs.length=ps.length) (r:Vals vs us)
  (x:InCallC s s.heap.objs.size (bindL (envOfC qual scope s.heap.objs.size f cd).kindOf (ps.zip us) fun _=>none) (cellsFrom (s.heap.objs.size+1) scope.names []) (bindC (envOfC qual scope s.heap.objs.size f cd).kindOf (ps.zip us) fun _=>none) s1):
  Inv (g9 CX P w K mg base N qual scope f cd A outer s H E) [] (dg N vs) H s1:=by
 have hpl:ps.length≤N.length:=by have:=congrArg List.length S.pre;rw[List.length_take]at this;omega
 obtain⟨h1,tk,rfl,hk⟩:=x.done
 have noA:∀b:Addr,b∉(g9 CX P w K mg base N qual scope f cd A outer s H E).ex:=fun b z=>absurd (show b∈([]:List Addr)from z) (by simp)
 refine⟨⟨e0.mod,S.kind,rfl,rfl,dw _,fun y z c h1 h2=>?_,fun y hy=>?_,fun y c _ h=>?_,fun _=>hd,Around.frames_deeper e0.frames,.inr ⟨rfl,rfl⟩,fun b z=>absurd z (noA b),e0.bs,e0.bsz,fun b _ _=>noA b,fun b z=>absurd z (noA b),e0.funs,e0.frf,e0.tab⟩,
  rfl,e0.bare,Un.kept hk,⟨_,x.toInCall.ns,fun i y v h1 h2 h3=>?_⟩,fun y c h=>⟨_,x.cell y c h⟩,e0.hok.fresh (dw _),fun y c h=>?_,fun p hp=>absurd (show p∈([]:List (Addr×Obj))from hp) (by simp),e0.hok.kept hk,?_⟩
 ·exact name_of_addr x.apart (PySem.mem_of_lookup h1) (PySem.mem_of_lookup h2)
 ·have hy:scope.names.lookup y=some .cell∨scope.names.lookup y=some .free:=hy
  rcases hy with hy |hy
  ·exact om hy
  ·exact absurd rfl (S.nofree _ (PySem.mem_of_lookup hy))
 ·exact g7 (x.above y c (PySem.mem_of_lookup h))
 ·have hi:i < vs.length:=by
   unfold dg at h2
   by_cases hi:i < vs.length
   ·exact hi
   ·rw[Zb (by simpa using hi)]at h2
    rw[List.getElem?_replicate]at h2
    split at h2 <;> cases h2
  have ha:vs[i]? =some v:=by
   unfold dg at h2
   rw[List.getElem?_append_left (by simpa using hi),qT]at h2
   cases e:vs[i]? with
   |none=>rw[e]at h2;cases h2
   |some a=>rw[e]at h2;cases h2;rfl
  obtain⟨u,hu,rv⟩:=r.get ha
  have hp:ps[i]? =some y:=by
   rw[←S.pre,List.getElem?_take_of_lt (by omega)];exact h1
  have ndP:ps.Nodup:=by rw[←S.pre];exact S.nd.sublist (List.take_sublist _ _)
  refine⟨u,rv,?_⟩
  rcases S.par y (List.mem_of_getElem? hp)with k |k
  ·exact .inl ⟨k,lZ ndP hp hu k⟩
  ·obtain⟨c,e⟩:=om (n:=s.heap.objs.size+1) k
   refine .inr ⟨.inl k,c,e,?_⟩
   have q:=x.cell y c e
   rw[l5 ndP hp hu (by show scope.names.lookup y≠_;rw[k];decide)]at q
   exact q
 ·exact e0.hok.fresh (g7 (x.above y c (PySem.mem_of_lookup h)))
 ·unfold dg
  show _=N.length
  rw[List.length_append,dv,List.length_replicate]
  omega
theorem yo{CX:qZ}{P:Program}{w:World}{K:Frag}{mg:Str→Option Value}{base:Heap}{k:Nat}{f:Addr}{name qual:Str}{params:Arguments}{body:List Stmt}{scope:Scope}{dV kV doc pm cdv ct oc:Value}{an od:Option Addr}
  {osl:Array (Option Value)} {N ps:List Str} {sp:Sp} (lk:K.lookup f=some ⟨oc,od,.func (fnOf name qual params body scope dV kV doc pm an cdv ct),osl⟩) (hcd:codeIn K cdv qual=true) (S:FnScope N ps scope)
  (len:∀vs H Q E,sp vs H Q E→vs.length=ps.length)
  (hbody:∀(A:Around) (outer:List Env) (s:Shared) (H:Hp) (vs:List V) (Q:VK) (E:XK),Room k (A.deeper (envOfC qual scope s.heap.objs.size f cdv))→sp vs H Q E→
   ∃t,PSs (g9 CX P w K mg base N qual scope f cdv A outer s H E) body t∧t {nx:=fun _ H'=>Q .non H',rt:=Q} (dg N vs) H):
  FnOk P w K mg base CX (k+1) f (fnOf name qual params body scope dV kV doc pm an cdv ct) ps sp:=by
 refine⟨len,fun A outer s H args us vs Q E hr e0 hb r hsp=>?_⟩
 have hl:=len _ _ _ _ hsp
 have KX:K.In s.heap:=e0.mod.kin.keeps fun b o e=>(e0.bs b o e).1
 have lim:s.heap.NoLimit:=e0.mod.nolimit.keeps fun b o e=>(e0.bs b o e).1
 have hkind:∀y∈ps.zip us,scope.names.lookup y.1=some .local∨(scope.names.lookup y.1=some .cell∧((cellsFrom (s.heap.objs.size+1) scope.names []).lookup y.1).isSome=true):=fun⟨n,v⟩ hy=>by
  rcases S.par n (List.of_mem_zip hy).1 with q |q
  ·exact .inl q
  ·exact .inr ⟨q,cellsFrom_some _ _ _ (.inl q)⟩
 refine codeAny_call_function hr.depth (KX _ _ lk) rfl S.co S.gen rfl (PySem.W.codeRec_of KX hcd) (hb _ _ _ _ ?_)
 refine wpAny_newFunctionEnv_cells S.kind hkind fun env he s1 x=>?_
 subst he
 refine⟨lim.keeps x.toInCall.keep,codeAny_func ?_⟩
 obtain⟨t,ht,hq⟩:=hbody A outer s H vs Q E (hr.deeper _) hsp
 have I:Inv (g9 CX P w K mg base N qual scope f cdv A outer s H E) [] (dg N vs) H s1:=l6 S hr.hd e0 hl r x
 refine wpAny_mono (ht [] s1 (dg N vs) H _ I hq) (fun fl s' hs=>?_) fun e s' hs=>hs
 have fin:∀{σ':St} {H':Hp} {v:V} {u:Value},Inv (g9 CX P w K mg base N qual scope f cdv A outer s H E) [] σ' H' s'→RelV v u→Q v H'→CE outer P w H s Q u s':=
  fun {σ' H' v u} J rv q=>⟨v,H',J.os,J.bare,J.base,J.hok,rv,q⟩
 cases fl with
 |ret u=>
  obtain⟨v,σ',H',J,rv,q⟩:=hs
  exact fin J rv q
 |next=>
  obtain⟨σ',H',J,q⟩:=hs
  exact fin (v:=V.non) (u:=Value.none) J rfl q
 |brk=>
  obtain⟨_,_,_,q⟩:=hs
  exact False.elim q
 |cont=>
  obtain⟨_,_,_,q⟩:=hs
  exact False.elim q
end L2
namespace L2
open PySem PySem.Spec PyProof.Rows
section
variable {X:Cx} {x:Str} {p pos:Pos} {e:Expr} {es:List Expr} {t:TA} {id T:String} {r:List V→Hp→VK→Prop}
def Ci(r:List V→Hp→VK→Prop)(t:TA):TE:=fun σ H Q=>t σ H fun vs H1=>r vs H1 Q
theorem iF (hc:CallR X (.builtin id) r) (hg:Gl X x) (hm:X.mg x=none) (hv:bootBuiltins x=some (.builtin id)) (ha:PA X (e::es) t) (hn:x≠"__name__":=by decide) (hdb:(x == ("__debug__":Str))=false:=by decide)
  (he:starEach (e::es) X.env=(false,eval e X.env)::starEach es X.env:=by rfl) (hpl:(backTo pos (starEach es X.env)).any (·.1)=false:=by rfl):PE X (.Call (.Name x p) (e::es) [] pos) (Ci r t):=by
 intro pins s σ H Q I h
 refine wpAny_Call_Name_kw (i9 I hg hm hv ?_ hn hdb)
 exact PyProof.Rows.callWith_builtin1 (cr (ha pos pins s σ H _ I h) fun us s1 ⟨vs,H1,I1,r1,q1⟩=>hc pins s1 σ H1 vs us Q I1 r1 q1) he hpl
theorem l7 (hc:CallR X (.type T) r) (hg:Gl X x) (hm:X.mg x=none) (hv:bootBuiltins x=some (.type T)) (ha:PA X (e::es) t) (hn:x≠"__name__":=by decide) (hdb:(x == ("__debug__":Str))=false:=by decide)
  (he:starEach (e::es) X.env=(false,eval e X.env)::starEach es X.env:=by rfl) (hpl:(backTo pos (starEach es X.env)).any (·.1)=false:=by rfl):PE X (.Call (.Name x p) (e::es) [] pos) (Ci r t):=by
 intro pins s σ H Q I h
 refine wpAny_Call_Name_kw (i9 I hg hm hv ?_ hn hdb)
 exact PyProof.Rows.callWith_type1 (cr (ha pos pins s σ H _ I h) fun us s1 ⟨vs,H1,I1,r1,q1⟩=>hc pins s1 σ H1 vs us Q I1 r1 q1) he hpl
end
end L2
namespace HT
open PySem PyProof.Rows
section
open PySem.SeqAt
open PySem.AutoSeq1 (wpAny_loadPart')
open PySem.MeetsSeq PySem.MeetsSeq2 PySem.MeetsSeq3
end
section
variable {prog:Program} {w:World} {A:Around} {E:Value→Shared→Prop} {s:Shared}
def j6(n d:Nat):Option Int→Nat
 |none=>d
 |some v=>if v < 0 then (v+(n:Int)).toNat else min v.toNat n
theorem uz(n d:Nat):j6 n d none=d:=rfl
theorem wI(n d k:Nat):j6 n d (some (k:Int))=min k n:=by
 show(if (k:Int) < 0 then ((k:Int)+(n:Int)).toNat else min (k:Int).toNat n)=min k n
 rw[if_neg (by omega),Int.toNat_natCast]
end
end HT
namespace L2
open PySem PySem.Spec PyProof.Rows
abbrev TO:=St→Hp→(Option Int→Hp→Prop)→Prop
def PO(X:Cx)(e:Option Expr)(t:TO):Prop:=
 ∀(pins:List (Addr×Obj)) (s:Shared) (σ:St) (H:Hp) (Q:Option Int→Hp→Prop),Inv X pins σ H s→t σ H Q→
  wpAny (model X.prog X.w) X.A (evalPart e X.env) (fun u s'=>∃o H',Inv X pins σ H' s'∧IsPart u o∧Q o H') X.xe s
def wJ:TO:=fun _ H Q=>Q none H
def Bd(t:TE):TO:=fun σ H Q=>t σ H fun x H1=>∃i,x=.int i∧Q (some i) H1
section
variable {X:Cx} {e:Expr} {te:TE} {lo hi:Option Expr} {tl th:TO} {pos p2:Pos}
theorem wK:PO X none wJ:=by
 intro pins s σ H Q I h
 rw[evalPart_none]
 exact wpAny_pure ⟨none,H,I,.none,h⟩
theorem wM(h:PE X e te):PO X (some e) (Bd te):=by
 intro pins s σ H Q I hw
 rw[evalPart_some]
 refine cr (h pins s σ H _ I hw) fun u s1 ⟨x,H1,I1,r1,q1⟩=>?_
 obtain⟨i,rfl,q⟩:=q1
 obtain⟨t,rfl⟩:=r1
 exact⟨some i,H1,I1,.int i t,q⟩
def SlR(X:Cx)(r:V→Option Int→Option Int→Hp→VK→Prop):Prop:=
 ∀(pins:List (Addr×Obj)) (s:Shared) (σ:St) (H:Hp) (x:V) (v vl vu:Value) (lo hi:Option Int) (sl:Addr) (Q:VK),Inv X pins σ H s→RelV x v→s.heap.IsSliceOf sl vl vu .none→IsPart vl lo→IsPart vu hi→r x lo hi H Q→
  ∃T id,typeLookup (.type T) "__getitem__"=pure (some (.builtin id))∧s.TypeIs v T∧wpAny (model X.prog X.w) X.A (getItem v (.ref sl)) (EP X pins σ Q) X.xe s
theorem SlR.or{r r':V→Option Int→Option Int→Hp→VK→Prop}(h:SlR X r)(h':SlR X r'):SlR X (fun x lo hi H Q=>r x lo hi H Q∨r' x lo hi H Q):=by
 intro pins s σ H x v vl vu lo hi sl Q I rx hs pl pu q
 rcases q with q |q
 ·exact h pins s σ H x v vl vu lo hi sl Q I rx hs pl pu q
 ·exact h' pins s σ H x v vl vu lo hi sl Q I rx hs pl pu q
def CQ(r:V→Option Int→Option Int→Hp→VK→Prop)(te:TE)(tl th:TO):TE:=fun σ H Q=>te σ H fun x H1=>tl σ H1 fun l H2=>th σ H2 fun u H3=>r x l u H3 Q
theorem uA{r:V→Option Int→Option Int→Hp→VK→Prop}(hr:SlR X r)(he:PE X e te)(hl:PO X lo tl)(hu:PO X hi th):PE X (.Subscript e (.Slice lo hi none p2) pos) (CQ r te tl th):=by
 intro pins s σ H Q I h
 refine Subscript_ (cr (he pins s σ H _ I h) fun v s1 ⟨x,H1,I1,r1,q1⟩=>?_)
 refine wpAny_Slice (cr (hl pins s1 σ H1 _ I1 q1) fun vl s2 ⟨l,H2,I2,pl,q2⟩=>cr (hu pins s2 σ H2 _ I2 q2) fun vu s3 ⟨u,H3,I3,pu,q3⟩=>?_)
 rw[evalPart_none]
 refine wpAny_pure ?_
 have I4:Inv X pins σ H3 {s3 with heap:=s3.heap.push {cls:=.type "slice",data:=.fields #[vl,vu,.none]}}:=I3.kept (t':=s3.toks) fun b ob q=>dI _ q
 obtain⟨T,id,hT,ht,hg⟩:=hr pins {s3 with heap:=s3.heap.push {cls:=.type "slice",data:=.fields #[vl,vu,.none]}} σ H3 x v vl vu l u s3.heap.objs.size Q I4 r1 (Heap.IsSliceOf.new ..) pl pu q3
 show wpAny (model X.prog X.w) X.A (subscriptTail e (.Slice lo hi none p2) v (.ref s3.heap.objs.size)) (EP X pins σ Q) X.xe {s3 with heap:=s3.heap.push {cls:=.type "slice",data:=.fields #[vl,vu,.none]}}
 exact tail_any (ops:=[.ref s3.heap.objs.size,v]) ht hT hg (by with_unfolding_all rfl)
def sI(xs:List V)(lo hi:Option Int):List V:=(xs.drop (HT.j6 xs.length 0 lo)).take (HT.j6 xs.length xs.length hi - HT.j6 xs.length 0 lo)
theorem on(xs:List V)(lo hi:Option Int):(sI xs lo hi).length≤xs.length:=by
 unfold sI
 rw[List.length_take,List.length_drop]
 omega
end
end L2
namespace L2
open PySem PySem.Spec PyProof.Rows
def Be(n:Nat)(i:Int):Option Nat:=if 0≤i then (if i < n then some i.toNat else none)else if -(n:Int)≤i then some (i+n).toNat else none
def atI{α:Type}(xs:List α)(i:Int):Option α:=(Be xs.length i).bind fun j=>xs[j]?
theorem wN{n:Nat}{i:Int}{j:Nat}(h:Be n i=some j):seqIndex? i n=some j∧j < n∧ -(n:Int)≤i∧i < n:=by
 unfold Be at h
 by_cases h0:0≤i
 ·rw[if_pos h0]at h
  by_cases h1:i < n
  ·rw[if_pos h1]at h
   have e:i.toNat=j:=Option.some.inj h
   exact⟨by rw[seqIndex_of h0 h1,e],by omega,by omega,h1⟩
  ·rw[if_neg h1]at h;cases h
 ·rw[if_neg h0]at h
  by_cases h1: -(n:Int)≤i
  ·rw[if_pos h1]at h
   have e:(i+n).toNat=j:=Option.some.inj h
   exact⟨by rw[seqIndex_neg (by omega) h1,e],by omega,h1,by omega⟩
  ·rw[if_neg h1]at h;cases h
theorem mU{α:Type}{xs:List α}{i:Int}{v:α}(h:atI xs i=some v):∃j,seqIndex? i xs.length=some j∧xs[j]? =some v∧j < xs.length∧ -(xs.length:Int)≤i∧i < xs.length:=by
 unfold atI at h
 cases e:Be xs.length i with
 |none=>rw[e]at h;cases h
 |some j=>
  rw[e]at h
  obtain⟨h1,h2,h3,h4⟩:=wN e
  exact⟨j,h1,h,h2,h3,h4⟩
def q9(b:Expr):Prop:=∀o i,subscripted b false o i=operate [o,i] (getItem o i)
def IxR(X:Cx)(r:R2):Prop:=
 ∀(value slice:Expr) (pins:List (Addr×Obj)) (s:Shared) (σ:St) (H:Hp) (x y:V) (v u:Value) (Q:VK),Inv X pins σ H s→RelV x v→RelV y u→r x y H Q→
  subscripted slice false v u=operate [v,u] (getItem v u)→wpAny (model X.prog X.w) X.A (subscriptTail value slice v u) (EP X pins σ Q) X.xe s
def MtR(X:Cx)(id:String)(r:V→List V→Hp→VK→Prop):Prop:=
 ∀(pins:List (Addr×Obj)) (s:Shared) (σ:St) (H:Hp) (x:V) (xs:List V) (v:Value) (us:List Value) (Q:VK),Inv X pins σ H s→RelV x v→Vals xs us→r x xs H Q→
  wpAny (model X.prog X.w) X.A (call (.builtin id) (v::us)) (EP X pins σ Q) X.xe s
section
variable {X:Cx} {a b:Expr} {ta tb:TE} {pos:Pos}
theorem IxR.or{r r':R2}(h:IxR X r)(h':IxR X r'):IxR X (fun x y H Q=>r x y H Q∨r' x y H Q):=by
 intro value slice pins s σ H x y v u Q I rx ry q hs
 rcases q with q |q
 ·exact h value slice pins s σ H x y v u Q I rx ry q hs
 ·exact h' value slice pins s σ H x y v u Q I rx ry q hs
theorem MtR.or{id:String}{r r':V→List V→Hp→VK→Prop}(h:MtR X id r)(h':MtR X id r'):MtR X id (fun x xs H Q=>r x xs H Q∨r' x xs H Q):=by
 intro pins s σ H x xs v us Q I rx rs q
 rcases q with q |q
 ·exact h pins s σ H x xs v us Q I rx rs q
 ·exact h' pins s σ H x xs v us Q I rx rs q
theorem Bf{r:R2}(hr:IxR X r)(ha:PE X a ta)(hb:PE X b tb)(hs:q9 b):PE X (.Subscript a b pos) (AV r ta tb):=by
 intro pins s σ H Q I h
 exact Subscript_ (zb ha hb I h fun v u s2 x y H2 I2 rx ry q=>hr a b pins s2 σ H2 x y v u Q I2 rx ry q (hs _ _))
def Bg(K:Frag):R2:=fun x y H Q=>∃p xs i v,x=.ref p∧y=.int i∧SqL K H p xs∧atI xs i=some v∧Q v H
def Bh(K:Frag):R2:=fun x y H Q=>∃p xs i v,x=.ref p∧y=.int i∧SqT K H p xs∧atI xs i=some v∧Q v H
def Bi:R2:=fun x y H Q=>∃z i c,x=.str z∧y=.int i∧z.length≤sizeLine∧atI z.cps.toList i=some c∧Q (.str ⟨#[c]⟩) H
theorem ix_list:IxR X (Bg X.K):=by
 intro value slice pins s σ H x y v u Q I rx ry h hs
 obtain⟨p,xs,i,z,rfl,rfl,hq,he,q⟩:=h
 cases rx
 obtain⟨t,rfl⟩:=ry
 obtain⟨its,r,pl,hz⟩:=I.list hq
 obtain⟨j,h1,h2,h3,h4,h5⟩:=mU he
 obtain⟨w,ew,rw'⟩:=r.get h2
 have hl:=r.length
 have hn:=i_
 have fin:EP X pins σ Q w s:=⟨z,H,I,rw',q⟩
 by_cases h0:0≤i
 ·have hj:i.toNat=j:=by
   rw[seqIndex_of h0 h5]at h1
   exact Option.some.inj h1
  exact item_listR pl.isList h0 (by omega) (by rw[hj];simpa using ew) fin hs
 ·have hj:(i+(its.toArray.size:Int)).toNat=j:=by
   rw[seqIndex_neg (by omega) h4]at h1
   rw[jE,←hl]
   exact Option.some.inj h1
  exact subscriptTail_builtinR (x:=w) pl.isList.typeIs slot_list_getitem.lookup
   (wpAny_getItem_list_neg (Q:=fun r s'=>r=w∧EP X pins σ Q r s') pl.isList (by omega) (by rw[jE] <;> omega) (by omega) (by rw[hj];simpa using ew) ⟨rfl,fin⟩) hs
theorem ix_tup:IxR X (Bh X.K):=by
 intro value slice pins s σ H x y v u Q I rx ry h hs
 obtain⟨p,xs,i,z,rfl,rfl,hq,he,q⟩:=h
 cases rx
 obtain⟨t,rfl⟩:=ry
 obtain⟨its,r,pl,hz⟩:=I.tuple hq
 obtain⟨j,h1,h2,h3,h4,h5⟩:=mU he
 obtain⟨w,ew,rw'⟩:=r.get h2
 have hl:=r.length
 have hn:=i_
 have fin:EP X pins σ Q w s:=⟨z,H,I,rw',q⟩
 exact subscriptTail_builtinR (x:=w) pl.typeIs slot_tuple_getitem.lookup
  (getItem_tuple (j:=j) (Q:=fun r s'=>r=w∧EP X pins σ Q r s') pl (by omega) (by omega) (by rw[jE,←hl];exact h1) (by simpa using ew) ⟨rfl,fin⟩) hs
theorem zo:IxR X Bi:=by
 intro value slice pins s σ H x y v u Q I rx ry h hs
 obtain⟨z,i,c,rfl,rfl,hz,he,q⟩:=h
 obtain⟨t,rfl⟩:=rx
 obtain⟨t',rfl⟩:=ry
 obtain⟨j,h1,h2,h3,h4,h5⟩:=mU he
 have hl:z.cps.toList.length=z.length:=by simp[Str.length]
 rw[hl]at h1 h4 h5
 have hn:=i_
 exact tail_any (typeIs_str s z t) slot_str_getitem.lookup (getItem_str (c:=c) (by
  have e1:decide (i < -(2 ^ 63:Int))=false:=decide_eq_false (by omega)
  have e2:decide (i≥2 ^ 63)=false:=decide_eq_false (by omega)
  rw[e1,e2,Bool.or_false]) (by rw[h1];simpa using h2) ⟨.str ⟨#[c]⟩,H,I.tok _,⟨_,rfl⟩,q⟩) hs
def CF(K:Frag):R2:=fun x y H Q=>Bg K x y H Q∨Bh K x y H Q∨Bi x y H Q
theorem zp:IxR X (CF X.K):=ix_list.or (ix_tup.or zo)
theorem Inv.lst{pins:List (Addr×Obj)}{σ:St}{H:Hp}{s:Shared}{p:Addr}{xs:List V}(I:Inv X pins σ H s)(h:H p=some (.lst xs)):
  ∃(its:List Value) (n:Nat),Vals xs its∧s.heap.get? p=some {cls:=.type "list",data:=.seq its.toArray n}∧xs.length≤sizeLine:=by
 obtain⟨z,its,n,r,e⟩:=I.hok p _ h
 exact⟨its,n,r,e,z⟩
theorem mV(lo hi:Option Int)(n:Nat):(sliceBounds lo hi none n).1=((HT.j6 n 0 lo:Nat):Int)∧(sliceBounds lo hi none n).2.1=((HT.j6 n n hi:Nat):Int)∧(sliceBounds lo hi none n).2.2=1:=by
 refine⟨?_,?_,rfl⟩
 ·cases lo with
  |none=>simp[sliceBounds,HT.j6]
  |some i=>
   simp only[sliceBounds,HT.j6,Option.getD_none,show(1:Int) > 0 by decide,if_true]
   by_cases h:i < 0
   ·simp only[h,if_true] <;> omega
   ·simp only[h,if_false] <;> omega
 ·cases hi with
  |none=>simp[sliceBounds,HT.j6]
  |some i=>
   simp only[sliceBounds,HT.j6,Option.getD_none,show(1:Int) > 0 by decide,if_true]
   by_cases h:i < 0
   ·simp only[h,if_true] <;> omega
   ·simp only[h,if_false] <;> omega
theorem lC(its:List Value)(lo hi:Option Int):slicePick its.toArray lo hi none=((its.drop (HT.j6 its.length 0 lo)).take (HT.j6 its.length its.length hi - HT.j6 its.length 0 lo)).toArray:=by
 obtain⟨h1,h2,h3⟩:=mV lo hi its.toArray.size
 unfold slicePick
 rw[h1,h2,h3]
 simp only[sliceRange_one,pick_run,jE] <;> rfl
def Cj(K:Frag):V→Option Int→Option Int→Hp→VK→Prop:=fun x lo hi H Q=>∃a xs,x=.ref a∧SqL K H a xs∧∀p,H p=none→Q (.ref p) (upd H p (.lst (sI xs lo hi)))
theorem wO:SlR X (Cj X.K):=by
 intro pins s σ H x v vl vu lo hi sl Q I rx hs pl pu h
 obtain⟨a,xs,rfl,hx,q⟩:=h
 cases rx
 obtain⟨its,r,ht,hz⟩:=I.list hx
 have hlen:=r.length
 refine⟨"list",_,slot_list_getitem.lookup,ht.isList.typeIs,?_⟩
 refine wpAny_getItem_list_slice ht.isList hs pl pu .none (by simp) ?_ (by rw[jE] <;> omega)
 rw[lC,←hlen]
 refine⟨.ref s.heap.objs.size,_,I.laid (t':=s.toks) (o:=.lst (sI xs lo hi)) (fun b ob q=>dI _ q) (dw _) ?_,rfl,q _ (I.hok.fresh (dw _))⟩
 exact⟨gG (on xs lo hi) hz,_,0,(r.drop (HT.j6 xs.length 0 lo)).take (HT.j6 xs.length xs.length hi - HT.j6 xs.length 0 lo),gE _ rfl⟩
def ga:V→Bool
 |.non=>true
 |.bl _=>true
 |.int _=>true
 |.str _=>true
 |_=>false
def wm:V→V→Bool
 |.non,.non=>true
 |.bl a,.bl b=>a == b
 |.bl a,.int b=>(if a then 1 else 0) == b
 |.int a,.bl b=>a == (if b then 1 else 0)
 |.int a,.int b=>a == b
 |.str a,.str b=>a == b
 |_,_=>false
theorem zq{A:Around}{s:Shared}{y x:V}{u v:Value}(ry:RelV y u)(rx:RelV x v)(fy:ga y=true)(fx:ga x=true):SeqAt.EqAt A s u v (wm y x):=by
 cases y with
 |non=>
  cases ry
  cases x with
  |non=>cases rx;exact SeqAt.EqAt.same _
  |bl b=>cases rx;exact SeqAt.EqAt.none_bool b
  |int b=>obtain⟨t,rfl⟩:=rx;exact SeqAt.EqAt.none_int b t
  |str b=>obtain⟨t,rfl⟩:=rx;exact SeqAt.EqAt.none_str b t
  |_=>exact absurd (show false=true from fx) mQ
 |bl a=>
  cases ry
  cases x with
  |non=>cases rx;exact SeqAt.EqAt.bool_none a
  |bl b=>cases rx;exact SeqAt.EqAt.bool_bool a b
  |int b=>obtain⟨t,rfl⟩:=rx;exact SeqAt.EqAt.bool_int a b t
  |str b=>obtain⟨t,rfl⟩:=rx;exact SeqAt.EqAt.bool_str a b t
  |_=>exact absurd (show false=true from fx) mQ
 |int a=>
  obtain⟨t',rfl⟩:=ry
  cases x with
  |non=>cases rx;exact SeqAt.EqAt.int_none a t'
  |bl b=>cases rx;exact SeqAt.EqAt.int_bool a t' b
  |int b=>obtain⟨t,rfl⟩:=rx;exact SeqAt.EqAt.int_int a t' b t
  |str b=>obtain⟨t,rfl⟩:=rx;exact SeqAt.EqAt.int_str a t' b t
  |_=>exact absurd (show false=true from fx) mQ
 |str a=>
  obtain⟨t',rfl⟩:=ry
  cases x with
  |non=>cases rx;exact SeqAt.EqAt.str_none a t'
  |bl b=>cases rx;exact SeqAt.EqAt.str_bool a t' b
  |int b=>obtain⟨t,rfl⟩:=rx;exact SeqAt.EqAt.str_int a t' b t
  |str b=>obtain⟨t,rfl⟩:=rx;exact SeqAt.EqAt.str_str a t' b t
  |_=>exact absurd (show false=true from fx) mQ
 |_=>exact absurd (show false=true from fy) mQ
def wP(x:V)(u:Value):Bool:=match u with
 |.none=>wm .non x
 |.bool b=>wm (.bl b) x
 |.int i _=>wm (.int i) x
 |.str z _=>wm (.str z) x
 |_=>false
theorem uB{x y:V}{u:Value}(r:RelV y u)(f:ga y=true):wP x u=wm y x:=by
 cases y with
 |non=>cases r;rfl
 |bl b=>cases r;rfl
 |int i=>obtain⟨t,rfl⟩:=r;rfl
 |str z=>obtain⟨t,rfl⟩:=r;rfl
 |_=>exact absurd (show false=true from f) mQ
theorem mW{x:V}:∀{xs:List V} {us:List Value},Vals xs us→xs.all ga=true→us.any (wP x)=xs.any fun y=>wm y x
 |_,_,.nil,_=>rfl
 |y::xs,u::us,.cons r t,f=>by
  rw[List.all_cons,pW]at f
  rw[List.any_cons,List.any_cons,uB r f.1,mW t f.2]
theorem km{A:Around}{s:Shared}{x:V}{v:Value}(rx:RelV x v)(fx:ga x=true):∀{xs:List V} {us:List Value},Vals xs us→xs.all ga=true→∀u∈us,SeqAt.EqAt A s u v (wP x u)
 |_,_,.nil,_=>fun u hu=>by cases hu
 |y::xs,u::us,.cons r t,f=>fun u' hu=>by
  rw[List.all_cons,pW]at f
  rcases Zap.mp hu with rfl |hu
  ·rw[uB r f.1];exact zq r rx f.1 fx
  ·exact km rx fx t f.2 u' hu
def AE(x:V)(xs:List V):Bool:=xs.any fun y=>wm y x
def CG(K:Frag)(neg:Bool):R2:=fun x y H Q=>∃p xs,y=.ref p∧(SqL K H p xs∨SqT K H p xs)∧ga x=true∧xs.all ga=true∧Q (.bl (if neg then !AE x xs else AE x xs)) H
theorem sJ:OpR X (compareOp .In) (CG X.K false):=by
 intro pins s σ H x y v u Q I rx ry h
 obtain⟨p,xs,rfl,hq,fx,fs,q⟩:=h
 cases ry
 rcases hq with hq |hq
 ·obtain⟨its,r,pl,hz⟩:=I.list hq
  refine SeqAt.in_listAt (wP x) pl.isList (fun w hw=>km rx fx r fs w (by simpa using hw)) ⟨.bl _,H,I,rfl,?_⟩
  rw[show its.toArray.any (wP x)=its.any (wP x) by simp,mW r fs]
  exact q
 ·obtain⟨its,r,pl,hz⟩:=I.tuple hq
  refine SeqAt.in_tupleAt (wP x) pl (fun w hw=>km rx fx r fs w (by simpa using hw)) ⟨.bl _,H,I,rfl,?_⟩
  rw[show its.toArray.any (wP x)=its.any (wP x) by simp,mW r fs]
  exact q
theorem mX:CallR X (.builtin "len") (fun xs H Q=>∃p ys,xs=[.ref p]∧(SqL X.K H p ys∨SqT X.K H p ys)∧Q (.int ys.length) H):=by
 intro pins s σ H xs us Q I r h
 obtain⟨p,ys,rfl,hq,q⟩:=h
 obtain⟨u,rfl,rx⟩:=uv r
 cases rx
 have hn:=i_
 rcases hq with hq |hq
 ·obtain⟨its,r',pl,hz⟩:=I.list hq
  have hlen:=r'.length
  exact Calls.call_len_list pl.isList (by simp only[jE] <;> omega) ⟨.int ys.length,H,I.tok _,⟨s.toks+1,by rw[jE,hlen]⟩,q⟩
 ·obtain⟨its,r',pl,hz⟩:=I.tuple hq
  have hlen:=r'.length
  exact len_tuple pl (by simp only[jE] <;> omega) ⟨.int ys.length,H,I.tok _,⟨s.toks+1,by rw[jE,hlen]⟩,q⟩
theorem mY:CallR X (.builtin "len") (fun xs H Q=>∃z,xs=[.str z]∧z.length≤sizeLine∧Q (.int z.length) H):=by
 intro pins s σ H xs us Q I r h
 obtain⟨z,rfl,hz,q⟩:=h
 obtain⟨u,rfl,t,rfl⟩:=uv r
 have hn:=i_
 exact len_str (by omega) ⟨.int z.length,H,I.tok _,⟨_,rfl⟩,q⟩
theorem CallR.or{f:Value}{r r':List V→Hp→VK→Prop}(h:CallR X f r)(h':CallR X f r'):CallR X f (fun xs H Q=>r xs H Q∨r' xs H Q):=by
 intro pins s σ H xs us Q I rs q
 rcases q with q |q
 ·exact h pins s σ H xs us Q I rs q
 ·exact h' pins s σ H xs us Q I rs q
theorem mZ:CallR X (.type "list") (fun xs H Q=>∃p ys,xs=[.ref p]∧(SqL X.K H p ys∨SqT X.K H p ys)∧∀l,H l=none→Q (.ref l) (upd H l (.lst ys))):=by
 intro pins s σ H xs us Q I r h
 obtain⟨p,ys,rfl,hq,q⟩:=h
 obtain⟨u,rfl,rx⟩:=uv r
 cases rx
 have fin:∀(its:List Value),Vals ys its→ys.length≤sizeLine→∀(h':Heap) (c':Nat),(∀b o',s.heap.get? b=some o'→h'.get? b=some o')→
   h'.get? s.heap.objs.size=some {cls:=.type "list",dict:=none,data:=.seq its.toArray c',slots:=#[]}→EP X pins σ Q (.ref s.heap.objs.size) {s with heap:=h'}:=fun its r' hz h' c' kp e=>
  ⟨.ref s.heap.objs.size,_,I.laid (t':=s.toks) kp (dw _) (show ObjOk X.prog X.w _ h' _ (.lst ys)from⟨hz,its,c',r',e⟩),rfl,q _ (I.hok.fresh (dw _))⟩
 rcases hq with hq |hq
 ·obtain⟨its,r',pl,hz⟩:=I.list hq
  have hlen:=r'.length
  obtain⟨o,ho,hc,n,hd⟩:=pl.isList
  exact call_list_seq p (.inl rfl) ho hc hd (fun h' c' kp e=>fin its r' hz h' c' kp e) (by simp only[jE] <;> omega)
 ·obtain⟨its,r',pl,hz⟩:=I.tuple hq
  have hlen:=r'.length
  obtain⟨o,ho,hc,n,hd⟩:=pl
  exact call_list_seq p (.inr rfl) ho hc hd (fun h' c' kp e=>fin its r' hz h' c' kp e) (by simp only[jE] <;> omega)
def CH(K:Frag)(T:String)(x:V)(H:Hp):Prop:=match x with
 |.str _=>T="str"
 |.int _=>T="int"
 |.ref p=>(T="list"∧∃xs,SqL K H p xs)∨(T="tuple"∧∃o,K.lookup p=some o∧o.cls=.type "tuple"∧o.dict=none)∨
   (T="dict"∧((∃kvs,H p=some (.dK kvs))∨∃kvs,H p=some (.dT kvs)))∨(T="set"∧∃S n,H p=some (.set S n))
 |_=>False
theorem zr{pins:List (Addr×Obj)}{σ:St}{H:Hp}{s:Shared}{T:String}{x:V}{v:Value}(I:Inv X pins σ H s)(r:RelV x v)(ty:CH X.K T x H):
  s.TypeIs v T∧∀a,v=.ref a→∃ob,s.heap.get? a=some ob∧ob.dict=none:=by
 cases x with
 |str z=>
  obtain⟨t,rfl⟩:=r
  cases(show T="str" from ty)
  exact⟨typeIs_str s z t,fun _ e=>nomatch e⟩
 |int i=>
  obtain⟨t,rfl⟩:=r
  cases(show T="int" from ty)
  exact⟨typeIs_int s i t,fun _ e=>nomatch e⟩
 |ref p=>
  cases r
  rcases ty with⟨rfl,xs,hq⟩ |⟨rfl,o,hk,hc,hd⟩ |⟨rfl,hk⟩ |⟨rfl,S,n,hk⟩
  ·obtain⟨its,_,pl,_⟩:=I.list hq
   refine⟨pl.isList.typeIs,fun a e=>?_⟩
   cases e
   obtain⟨o,n,e,c,hd,_⟩:=pl
   exact⟨o,e,hd⟩
  ·refine⟨⟨o,I.kIn p o hk,hc⟩,fun a e=>?_⟩
   cases e
   exact⟨o,I.kIn _ o hk,hd⟩
  ·have z:∃o,s.heap.get? p=some o∧o.ExactDict:=by
    rcases hk with⟨kvs,hk⟩ |⟨kvs,hk⟩
    ·obtain⟨_,_,_,_,o,_,_,e,ex,_⟩:=I.hok p _ hk
     exact⟨o,e,ex⟩
    ·obtain⟨_,_,_,_,o,_,_,e,ex,_⟩:=I.hok p _ hk
     exact⟨o,e,ex⟩
   obtain⟨o,e,ex⟩:=z
   refine⟨⟨o,e,ex.1⟩,fun a e2=>?_⟩
   cases e2
   exact⟨o,e,ex.2.1⟩
  ·obtain⟨o,_,_,_,e,ex,_⟩:=I.hok p _ hk
   refine⟨⟨o,e,ex.1⟩,fun a e2=>?_⟩
   cases e2
   exact⟨o,e,ex.2.1⟩
 |_=>exact False.elim ty
def CS(K:Frag)(T:String)(r:V→List V→Hp→VK→Prop)(to:TE)(t:TA):TE:=fun σ H Q=>to σ H fun x H1=>CH K T x H1∧t σ H1 fun xs H2=>r x xs H2 Q
variable {o e:Expr} {es:List Expr} {to:TE} {t:TA} {name:Str} {apos cpos:Pos} {T id:String} {r:V→List V→Hp→VK→Prop}
theorem yp (pa:PlainAttrs T) (slot:Slot T name id) (hty:typeOf (.builtin id)=pure (.type "method_descriptor")) (hm:MtR X id r) (ho:PE X o to) (ha:PA X (e::es) t)
  (hbase:attributeBase o name X.env (eval o X.env)=eval o X.env:=by rfl)
  (hfew:((backTo cpos (starEach (e::es) X.env)).all (fun x=> !x.1)&&(backToKw cpos (keywordEach [] X.env)).all (fun x=>x.1.isSome)
   &&decide ((e::es).length+([]:List Keyword).length+(if ([]:List Keyword).isEmpty then 0 else 1) < 30))=true:=by rfl)
  (hline:(apos.endLine == cpos.line)=true:=by rfl) (hs:starEach (e::es) X.env=(false,eval e X.env)::starEach es X.env:=by rfl) (hplain:(backTo cpos (starEach es X.env)).any (·.1)=false:=by rfl):
  PE X (.Call (.Attribute o name apos) (e::es) [] cpos) (CS X.K T r to t):=by
 intro pins s σ H Q I h
 refine wpAny_Call_method_late hbase hfew hline rfl (cr (ho pins s σ H _ I h) fun v s1 ⟨x,H1,I1,r1,ty,q1⟩=>?_)
 obtain⟨h1,h2⟩:=zr I1 r1 ty
 refine⟨T,id,pa,slot,hty,h1,h2,?_⟩
 have hA:=ha cpos pins s1 σ H1 _ I1 q1
 rw[hs]at hA ⊢
 refine Calls.callWith_builtin (by show(false||(backTo cpos (starEach es X.env)).any (·.1))=false;rw[hplain] <;> rfl) (Calls.evalArgs_plain ?_)
 exact cr hA fun us s2 ⟨vs,H2,I2,r2,q2⟩=>hm pins s2 σ H2 x vs v us Q I2 r1 r2 q2
end
end L2
namespace L2
open PySem PySem.Spec PyProof.Rows
def CT(X:Cx)(id:String)(r:V→List V→Hp→VK→Prop):Prop:=
 ∀(pins:List (Addr×Obj)) (s:Shared) (σ:St) (H:Hp) (x:V) (xs:List V) (v:Value) (us:List Value) (Q:VK),Inv X pins σ H s→RelV x v→Vals xs us→r x xs H Q→
  wpAny (model X.prog X.w) X.A (call (.builtin id) (v::us)) (EP X pins σ Q) X.xe s
theorem Vals.one{x:V}{us:List Value}(h:Vals [x] us):∃u,us=[u]∧RelV x u:=by
 cases h with
 |cons r t=>cases t;exact⟨_,rfl,r⟩
theorem Vals.two{x y:V}{us:List Value}(h:Vals [x,y] us):∃u v,us=[u,v]∧RelV x u∧RelV y v:=by
 cases h with
 |cons r t=>
  obtain⟨v,rfl,q⟩:=Vals.one t
  exact⟨_,_,rfl,r,q⟩
theorem Vals.zero:∀{us:List Value},Vals [] us→us=[]
 |_,.nil=>rfl
theorem Vals.eraseIdx:∀{xs:List V} {us:List Value} (i:Nat),Vals xs us→Vals (xs.eraseIdx i) (us.eraseIdx i)
 |_,_,_,.nil=>.nil
 |_,_,0,.cons _ t=>t
 |_,_,i+1,.cons r t=>.cons r (Vals.eraseIdx i t)
theorem Vals.reverse{xs:List V}{us:List Value}(h:Vals xs us):Vals xs.reverse us.reverse:=by
 induction h with
 |nil=>exact .nil
 |cons r t ih=>rw[List.reverse_cons,List.reverse_cons];exact Vals.append ih (.cons r .nil)
theorem Vals.rep{xs:List V}{us:List Value}(h:Vals xs us):∀k:Nat,Vals (List.replicate k xs).flatten (List.replicate k us).flatten
 | 0=>.nil
 |k+1=>by
  rw[List.replicate_succ,List.replicate_succ,List.flatten_cons,List.flatten_cons]
  exact Vals.append h (Vals.rep h k)
section
variable {X:Cx} {pins:List (Addr×Obj)} {σ:St} {H:Hp} {s:Shared} {l b:Addr} {xs ys zs:List V}
theorem Inv.lset{its its':List Value}{n:Nat}{f:Array Value→Array Value}{t':Nat}(I:Inv X pins σ H s)(hH:H l=some (.lst xs))
  (e:s.heap.get? l=some {cls:=.type "list",data:=.seq its.toArray n}) (hf:f its.toArray=its'.toArray) (hv:Vals ys its') (hz:ys.length≤sizeLine):
  Inv X pins σ (upd H l (.lst ys)) {s with heap:=s.heap.update l (Obj.mapSeq f),toks:=t'}:=by
 have q:=PySem.IsL.update e f
 rw[hf]at q
 refine I.write (x:=l) (e:=l) (by rw[hH];exact trivial) (.inl rfl) (fun b' u hb hu=>(Heap.get?_update_other s.heap (Obj.mapSeq f) (Ne.symm hb)).trans hu) ⟨_,q⟩ ?_
 exact⟨hz,its',_,hv,q⟩
theorem Inv.lnew{its:List Value}{t':Nat}(I:Inv X pins σ H s)(hv:Vals ys its)(hz:ys.length≤sizeLine):
  Inv X pins σ (upd H s.heap.objs.size (.lst ys)) {s with heap:=s.heap.push {cls:=.type "list",data:=.seq its.toArray},toks:=t'}:=
 I.laid (fun _ _ q=>dI _ q) (dw _) ⟨hz,its,0,hv,gE _ rfl⟩
theorem Inv.fresh(I:Inv X pins σ H s):H s.heap.objs.size=none:=I.hok.fresh (dw _)
theorem Inv.lstM(I:Inv X pins σ H s)(hH:H l=some (.lst xs)):xs.length≤sizeLine∧∃(its:List Value) (n:Nat),Vals xs its∧xs.length=its.length∧s.heap.get? l=some {cls:=.type "list",data:=.seq its.toArray n}:=by
 obtain⟨z,its,n,r,e⟩:=I.hok l _ hH
 exact⟨z,its,n,r,r.length,e⟩
end
section
variable {X:Cx}
def wQ:V→List V→Hp→VK→Prop:=fun x vs H Q=>∃l xs y,x=.ref l∧vs=[y]∧H l=some (.lst xs)∧xs.length < sizeLine∧Q .non (upd H l (.lst (xs++[y])))
theorem ja:CT X "list.append" wQ:=by
 intro pins s σ H x vs v us Q I rx rv h
 obtain⟨l,xs,y,rfl,rfl,hH,hz,q⟩:=h
 cases rx
 obtain⟨u,rfl,ru⟩:=rv.one
 obtain⟨z,its,n,r,hl,e⟩:=I.lstM hH
 refine call_meets F.slot_list_append ⟨_,e,rfl⟩ F.entry_list_append (F.args_list_append_2 _ _) (PySem.list_append l its.toArray n u (by rw[jE];omega)) ⟨e,?_⟩
 refine⟨.non,_,I.lset (its':=its++[u]) hH e (by simp) (r.append (.cons ru .nil)) ?_,rfl,q⟩
 rw[List.length_append,List.length_singleton]
 omega
theorem wR{α:Type}(xs:List α)(k:Nat):(List.replicate k xs).flatten.length=k*xs.length:=by
 induction k with
 |zero=>simp
 |succ k ih=>rw[List.replicate_succ,List.flatten_cons,List.length_append,ih,Nat.succ_mul,Nat.add_comm]
end
end L2
namespace Att
open PySem PySem.W PySem.Calls PyProof.Rows
theorem jT{P:Params}{h:Heap}:∀(ns:List Int) (vs:List Value),WellAll P h vs (ns.map WData.int)→IntsAre vs ns:=by
 intro ns
 induction ns with
 |nil=>
  intro vs w
  rw[lU]at w
  cases w
  exact .nil
 |cons n ns ih=>
  intro vs w
  rw[c9]at w
  cases w with
  |cons a b=>
   cases a
   exact .cons _ _ (ih _ b)
theorem sK{l:OpenLaw}{n:Nat}(hn:l.most=some n){P:Params}{h:Heap}{args:List WData}{vals:List Value}
  (hpre:l.row.toRowW.claim.pre args=true) (hwl:WellAll P h vals args):
  ∃a vs ns,vals=[Value.ref a]∧args=[WData.list (ns.map WData.int)]∧h.get? a=some {cls:=.type "list",data:=.seq vs.toArray}∧IntsAre vs ns∧ns.length≤n:=by
 have hsh:WShape.hasAll [] args [.list .int]=true:=(pre_splitW hpre).1
 have hc:l.pre.holds [] {args:=args}=true:=(pre_splitW hpre).2
 obtain⟨d,r,rfl,h1,h2⟩:=hasAllW_cons hsh
 obtain rfl:=hasAllW_nil h2
 obtain⟨xs,rfl,h3⟩:=hasW_list h1
 obtain⟨ns,rfl⟩:=items_int h3
 have hlen:ns.length≤n:=by
  unfold OpenLaw.pre at hc
  have h4:(WTm.not (.lt (.lit (.int (n:Int))) (.len (.arg 0)))).holds [] {args:=[.list (ns.map .int)]}=true:=by
   have h4:=(holds_andW hc).1
   rw[hn]at h4
   exact h4
  have h5:=condW_of h4 (w_not (w_lt w_lit (w_len_list (w_arg rfl))))
  rw[dv]at h5
  refine Nat.le_of_not_lt fun q=>?_
  have q':(n:Int) < ((ns.length:Nat):Int):=by omega
  first
   |(rw[decide_eq_true q']at h5;exact absurd h5 (by decide))
   |(simp at h5;omega)
 cases hwl with
 |cons w1 w2=>
  cases w2
  cases w1 with
  |list ho hall=>exact⟨_,_,ns,rfl,rfl,ho,jT ns _ hall,hlen⟩
theorem sL(l:OpenLaw)(args:List WData):l.row.toRowW.claim.post args (.bool true) args=true:=
 postW_of (r:=l.row.toRowW) (X:=(true == true))
  (show WShape.has [] (.bool true) .bool=true by first |rfl |decide |simp[WShape.has,WShape.arms,WShape.armsAll])
  (show(WTm.eq .res (.lit (.bool true))).value [] {args:=args,res:=some (.bool true),after:=args}=some (.bool (true == true))from w_eq_bool (w_res rfl) w_lit) rfl
theorem oo{l:OpenLaw}{n:Nat}{q:Program}{loose:List Str}{XP:(Str→Option Value)→Heap→Prop}{YP:World→Heap→Prop}{d:DefRec}
  (hn:l.most=some n) (hdf:d.params.defaults=[])
  (call:∀(w:World) (s₀ s₁:Shared) (mg mb:Str→Option Value) (fa:Addr) (o:Obj) (pm cd doc:Value) (a:Addr) (vs:List Value) (ns:List Int),
   Ground q loose [] XP w s₀ mg mb s₁.heap→YP w s₁.heap→
   s₁.heap.get? fa=some o→o.data=.func (docDef d.name d.params d.body d.scope pm cd doc)→s₁.heap.CodeRec cd d.name→mg d.name=some (.ref fa)→
   s₁.heap.get? a=some {cls:=.type "list",data:=.seq vs.toArray}→IntsAre vs ns→ns.length≤n→s₁.gens=#[]→
   codeAny (model l.prog w) callerA (.call (.ref fa) ⟨[.ref a],[]⟩) (fun r s'=>r=.ok (.ret (.bool true))∧OldK s₁.heap s'.heap∧s'.os=s₁.os∧AllBare s'.gens) s₁):
  WalkO q loose XP YP l.row.toRowW d [] (fun f vs=>PySem.call f vs):=by
 intro w s₀ s₁ mg mb G Y fa o pm cd doc dV kV ho hd hcd hD hmg hg args vals as hpre hlay hrd hwl hlo
 obtain rfl:dV=.none:=Dflts.none hD hdf
 obtain rfl:kV=.none:=Dflts.noKw hD
 obtain⟨a,vs,ns,rfl,rfl,hobj,hints,hlen⟩:=sK hn hpre hwl
 refine enter_call (codeAny_mono (call w s₀ s₁ mg mb fa o pm cd doc a vs ns G Y ho (fd_plain hd) hcd hmg hobj hints hlen hg) fun r s' hq=>?_)
 obtain⟨rfl,h2,h3,h4⟩:=hq
 exact⟨.inl ⟨.bool true,.bool true,[],rfl,fun _=>rfl,.bool true,sL l _,fun _=>⟨List.Pairwise.nil,fun _ hm=>(nomatch hm)⟩⟩,h2,h3,h4⟩
end Att
namespace L2
open PySem PySem.Spec PyProof.Rows
theorem gI:∀{vs:List Value} {ns:List Int},IntsAre vs ns→Vals (ns.map V.int) vs
 |_,_,.nil=>.nil
 |_,_,.cons n t h=>.cons ⟨t,rfl⟩ (gI h)
theorem ObjOk.tbl0{P:Program}{w:World}{H:Hp}{h:Heap}{b:Addr}{q:Str}(e:h.get? b=some (tabObj #[])):ObjOk P w H h b (.tbl q):=⟨#[],e,trivial,fun pos cv z=>by cases z⟩
end L2
namespace L2
open PySem PySem.Spec PyProof.Rows
def cL(s:Stmt):Arguments:=match s with
 | .FunctionDef _ a _ _ _ _ _ _ _ _=>a
 |_=>{posonlyargs:=[],args:=[],vararg:=none,kwonlyargs:=[],kw_defaults:=[],kwarg:=none,defaults:=[]}
def bh(s:Stmt):List Stmt:=match s with
 | .FunctionDef _ _ b _ _ _ _ _ _ _=>b
 |_=>[]
def ag(s:Stmt):Scope:=match s with
 | .FunctionDef _ _ _ _ _ _ sc _ _ _=>sc
 |_=>{kind:=.function,names:=[],isGenerator:=false,isCoroutine:=false}
abbrev pU:qZ:=fun _ _ _ _ _ _=>False
abbrev E0:XK:=fun _ _ _=>False
theorem uC{X:Cx}:qa pU X E0:=fun _ _ _ _ _ _ _ h=>h.elim
structure Fun (K:Frag) (x qual:Str) (st:Stmt) (f:Addr) (fd:FuncData):Prop where
 ex:∃(oc:Value) (od:Option Addr) (kV doc pm:Value) (an:Option Addr) (cdv ct:Value) (osl:Array (Option Value)),
  fd=fnOf x qual (cL st) (bh st) (ag st) .none kV doc pm an cdv ct∧K.lookup f=some ⟨oc,od,.func fd,osl⟩∧codeIn K cdv qual=true
 kp:keepIn K (.ref f)=true
section
variable {P:Program} {w:World} {K:Frag} {mg:Str→Option Value} {base:Heap}
theorem Fun.ok{x qual:Str}{st:Stmt}{f:Addr}{fd:FuncData}{N ps:List Str}{k:Nat}{sp:Sp}(F:Fun K x qual st f fd)(S:FnScope N ps (ag st))(len:∀vs H Q E,sp vs H Q E→vs.length=ps.length)
  (hbody:∀(cdv:Value) (A:Around) (outer:List Env) (s:Shared) (H:Hp) (vs:List V) (Q:VK) (E:XK),Room k (A.deeper (envOfC qual (ag st) s.heap.objs.size f cdv))→sp vs H Q E→
   ∃t,PSs (g9 pU P w K mg base N qual (ag st) f cdv A outer s H E).nox (bh st) t∧t {nx:=fun _ H'=>Q .non H',rt:=Q} (dg N vs) H):FnOk P w K mg base pU (k+1) f fd ps sp:=by
 obtain⟨oc,od,kV,doc,pm,an,cdv,ct,osl,rfl,lk,hcd⟩:=F.ex
 refine yo lk hcd S len fun A outer s H vs Q E hr hsp=>?_
 obtain⟨t,h,q⟩:=hbody cdv A outer s H vs Q E hr hsp
 exact⟨t,h.nox,q⟩
theorem Fun.binds{x qual:Str}{st:Stmt}{f:Addr}{fd:FuncData}{ps:List Str}(F:Fun K x qual st f fd)
  (h:∀(kV doc pm:Value) (an:Option Addr) (cdv ct:Value) (us:List Value),us.length=ps.length→bindArgs (fnOf x qual (cL st) (bh st) (ag st) .none kV doc pm an cdv ct) ⟨us,[]⟩=pure (ps.zip us)):Binds K fd ps []:=by
 obtain⟨oc,od,kV,doc,pm,an,cdv,ct,osl,rfl,lk,hcd⟩:=F.ex
 exact .all (h kV doc pm an cdv ct)
theorem qc{x qual:Str}{st:Stmt}{f:Addr}{oc:Value}{od an:Option Addr}{osl:Array (Option Value)}{kV doc pm cdv ct:Value}(l:K.lookup f=some ⟨oc,od,.func (fnOf x qual (cL st) (bh st) (ag st) .none kV doc pm an cdv ct),osl⟩)
  (c:codeIn K cdv qual=true) (k:keepIn K (.ref f)=true):Fun K x qual st f (fnOf x qual (cL st) (bh st) (ag st) .none kV doc pm an cdv ct):=⟨⟨oc,od,kV,doc,pm,an,cdv,ct,osl,rfl,l,c⟩,k⟩
end
def Same(H H':Hp):Prop:=∀b o,H b=some o→H' b=some o
theorem Same.refl(H:Hp):Same H H:=fun _ _ h=>h
theorem Same.trans{H H1 H2:Hp}(a:Same H H1)(b:Same H1 H2):Same H H2:=fun c o h=>b c o (a c o h)
theorem Same.free{H H':Hp}(e:Same H H'){l:Addr}(h:H' l=Option.none):H l=Option.none:=by
 cases q:H l with
 |none=>rfl
 |some o=>
  rw[e l o q]at h
  cases h
theorem Same.seq{K:Frag}{H H':Hp}{a:Addr}{xs:List V}(e:Same H H')(h:SqL K H a xs):SqL K H' a xs:=by
 rcases h with(h |⟨o,h⟩) |h
 ·exact .inl (.inl (e _ _ h))
 ·exact .inl (.inr ⟨o,e _ _ h⟩)
 ·exact .inr h
end L2
namespace NH
section
variable {α:Type} [DecidableEq α]
def stp(r:List (α×Int))(p:α×Int):List (α×Int):=
 match r with
 |[]=>if p.2=0 then []else [p]
 |q::r'=>if q.1=p.1 then (if q.2+p.2=0 then r' else (p.1,q.2+p.2)::r')else (if p.2=0 then q::r' else p::q::r')
def stk(c:List (α×Int)):List (α×Int):=c.foldl stp []
def short(c:List (α×Int)):List (α×Int):=(stk c).reverse
def Red:List (α×Int)→Prop
 |[]=>True
 |[p]=>p.2≠0
 |p::q::r=>p.2≠0∧p.1≠q.1∧Red (q::r)
theorem Red.cons{p:α×Int}{r:List (α×Int)}(h0:p.2≠0)(h1:∀q∈r.head?,p.1≠q.1)(h:Red r):Red (p::r):=by
 cases r with
 |nil=>exact h0
 |cons q r=>exact⟨h0,h1 q rfl,h⟩
theorem Red.next{p:α×Int}{r:List (α×Int)}(h:Red (p::r)):∀q∈r.head?,p.1≠q.1:=by
 cases r with
 |nil=>intro q hq;cases hq
 |cons q r=>intro q' hq;cases hq;exact h.2.1
def sn(w:List (α×Int))(p:α×Int):List (α×Int):=(stp w.reverse p).reverse
def yq(p x:α×Int):List (α×Int):=if x.1=p.1 then (if x.2+p.2=0 then []else [(p.1,x.2+p.2)])else (if p.2=0 then [x]else [p,x])
theorem iG(p x:α×Int)(r:List (α×Int)):stp (x::r) p=yq p x++r:=by
 show(if x.1=p.1 then (if x.2+p.2=0 then r else (p.1,x.2+p.2)::r)else (if p.2=0 then x::r else p::x::r))=yq p x++r
 unfold yq
 by_cases e:x.1=p.1
 ·rw[if_pos e,if_pos e];split <;> rfl
 ·rw[if_neg e,if_neg e];split <;> rfl
def Ck(x p:α×Int):List (α×Int):=(yq p x).reverse
theorem q_(p x:α×Int)(r:List (α×Int)):sn (r++[x]) p=r++Ck x p:=by
 unfold sn Ck
 rw[List.reverse_append,List.reverse_singleton,List.singleton_append,iG,List.reverse_append,List.reverse_reverse]
theorem Bj(p q:α×Int)(x:α×Int)(hx:x.2≠0):stp (sn [x] q) p=sn (stp [x] p) q:=by
 obtain⟨n,a⟩:=p
 obtain⟨k,b⟩:=q
 obtain⟨m,u⟩:=x
 simp at hx
 by_cases e1:m=n
 ·subst e1
  by_cases e2:m=k
  ·subst e2
   by_cases z1:u+a=0 <;> by_cases z2:u+b=0
   ·simp[stp,sn,z1,z2]
    have:a=b:=by omega
    have ha:a≠0:=by omega
    have hb:b≠0:=by omega
    simp[ha,hb,this]
   ·have hb:u+b+a=b:=by omega
    by_cases b0:b=0
    ·subst b0;simp[stp,sn,z1,hx]
    ·simp[stp,sn,z1,z2,hb,b0]
   ·have hb:u+a+b=a:=by omega
    by_cases a0:a=0
    ·subst a0;simp[stp,sn,z2,hx]
    ·simp[stp,sn,z1,z2,hb,a0]
   ·have hb:u+b+a=u+a+b:=by omega
    by_cases z3:u+a+b=0
    ·simp[stp,sn,z1,z2,hb,z3]
    ·simp[stp,sn,z1,z2,hb,z3]
  ·by_cases z1:u+a=0 <;> by_cases z2:b=0 <;> simp[stp,sn,e2,z1,z2]
 ·by_cases e2:m=k
  ·subst e2
   by_cases z1:u+b=0 <;> by_cases z2:a=0 <;> simp[stp,sn,e1,z1,z2]
  ·by_cases z1:a=0 <;> by_cases z2:b=0 <;> simp[stp,sn,e1,e2,z1,z2]
theorem Bk(p q:α×Int):stp (sn [] q) p=sn (stp [] p) q:=by
 obtain⟨n,a⟩:=p
 obtain⟨k,b⟩:=q
 by_cases z1:a=0 <;> by_cases z2:b=0
 ·simp[stp,sn,z1,z2]
 ·by_cases e:k=n <;> simp[stp,sn,z1,z2,e]
 ·by_cases e:n=k <;> simp[stp,sn,z1,z2,e]
 ·by_cases e:k=n
  ·subst e
   by_cases z:a+b=0
   ·have z':b+a=0:=by omega
    simp[stp,sn,z1,z2,z,z']
   ·have z':¬b+a=0:=by omega
    simp[stp,sn,z1,z2,z,z']
    omega
  ·have e':¬n=k:=fun t=>e t.symm
   simp[stp,sn,z1,z2,e,e']
theorem comm(p q:α×Int){w:List (α×Int)}(h:Red w):stp (sn w q) p=sn (stp w p) q:=by
 cases w with
 |nil=>exact Bk p q
 |cons x r=>
  rcases List.eq_nil_or_concat r with rfl |⟨m,y,e⟩
  ·exact Bj p q x h
  ·have e':r=m++[y]:=by rw[e] <;> simp
   subst e'
   have e1:x::(m++[y])=(x::m)++[y]:=rfl
   have e2:sn (x::(m++[y])) q=x::(m++Ck y q):=by rw[e1,q_];rfl
   rw[e2,iG,iG,←lA,←lA,q_]
end
end NH
namespace L2
open PySem PySem.Spec PyProof.Rows
theorem fE{H:Hp}{p:Addr}(h:H p=none)(o:HO):Same H (upd H p o):=fun b u q=>by rw[aD (a9 q h)];exact q
theorem Same.tup{K:Frag}{H H':Hp}{a:Addr}{xs:List V}(e:Same H H')(h:SqT K H a xs):SqT K H' a xs:=by
 rcases h with(h |⟨o,h⟩) |h
 ·exact .inl (.inl (e _ _ h))
 ·exact .inl (.inr ⟨o,e _ _ h⟩)
 ·exact .inr h
def SameBut(l:Addr)(H H':Hp):Prop:=∀b o,b≠l→H b=some o→H' b=some o
theorem SameBut.upd{H:Hp}{l:Addr}(o:HO):SameBut l H (upd H l o):=fun b u hb q=>by rw[aD hb];exact q
theorem SameBut.trans{H H1 H2:Hp}{l:Addr}(a:SameBut l H H1)(b:SameBut l H1 H2):SameBut l H H2:=fun c o hc q=>b c o hc (a c o hc q)
theorem SameBut.same{H H':Hp}{l:Addr}(a:SameBut l H H')(h:H l=none):Same H H':=fun b o q=>a b o (a9 q h) q
theorem SameBut.tup{K:Frag}{H H':Hp}{l a:Addr}{xs ys:List V}(e:SameBut l H H')(hl:H l=some (.lst ys))(h:SqT K H a xs):SqT K H' a xs:=by
 rcases h with(h |⟨o,h⟩) |h
 ·exact .inl (.inl (e _ _ (yj h hl (by intro z;cases z)) h))
 ·exact .inl (.inr ⟨o,e _ _ (yj h hl (by intro z;cases z)) h⟩)
 ·exact .inr h
mutual
inductive DOf (K:Frag) (H:Hp):V→PyData→Prop
 |non:DOf K H .non .none
 |bl (b:Bool):DOf K H (.bl b) (.bool b)
 |int (i:Int):DOf K H (.int i) (.int i)
 |str (x:Str):DOf K H (.str x) (.str x)
 |lst {a:Addr} {xs:List V} {ds:List PyData}:SqL K H a xs→DAll K H xs ds→DOf K H (.ref a) (.list ds)
 |tup {a:Addr} {xs:List V} {ds:List PyData}:SqT K H a xs→DAll K H xs ds→DOf K H (.ref a) (.tuple ds)
inductive DAll (K:Frag) (H:Hp):List V→List PyData→Prop
 |nil:DAll K H [] []
 |cons {x:V} {xs:List V} {d:PyData} {ds:List PyData}:DOf K H x d→DAll K H xs ds→DAll K H (x::xs) (d::ds)
end
section
variable {X:Cx} {pins:List (Addr×Obj)} {σ:St} {H:Hp} {s:Shared}
theorem DOf.reads(I:Inv X pins σ H s){x:V}{d:PyData}{u:Value}(h:DOf X.K H x d)(r:RelV x u):∃as,Reads s.heap u d as:=DOf.rec (motive_1:=fun x d _=>∀{u:Value},RelV x u→∃as,Reads s.heap u d as) (motive_2:=fun xs ds _=>∀{us:List Value},Vals xs us→∃as,ReadsAll s.heap us ds as)
  (fun r=>by cases r;exact⟨_,Reads.none⟩) (fun b _ r=>by cases r;exact⟨_,Reads.bool b⟩) (fun i _ r=>by obtain⟨t,rfl⟩:=r;exact⟨_,Reads.int i t⟩) (fun x _ r=>by obtain⟨t,rfl⟩:=r;exact⟨_,Reads.str x t⟩)
  (fun hq _ ih _ r=>by
   cases r
   obtain⟨its,rv,⟨o,n,e,c,_,d⟩,_⟩:=I.list hq
   obtain⟨as,q⟩:=ih rv
   exact⟨_,reads_list_at e c d (by simpa using q)⟩)
  (fun hq _ ih _ r=>by
   cases r
   obtain⟨its,rv,⟨o,e,c,n,d⟩,_⟩:=I.tuple hq
   obtain⟨as,q⟩:=ih rv
   exact⟨_,reads_tuple_at e c d (by simpa using q)⟩)
  (fun r=>by cases r;exact⟨_,ReadsAll.nil⟩)
  (fun _ _ a b _ r=>by
   cases r with
   |cons r rt=>
    obtain⟨as,q⟩:=a r
    obtain⟨bs,p⟩:=b rt
    exact⟨_,ReadsAll.cons q p⟩) h r
end
def Bl(K:Frag):R2:=fun x y H Q=>∃d e,DOf K H x d∧DOf K H y e∧SeqAt.shaped d=true∧SeqAt.shaped e=true∧Q (.bl (PyData.eqv d e)) H
def Bm(K:Frag):R2:=fun x y H Q=>∃d e,DOf K H x d∧DOf K H y e∧SeqAt.shaped d=true∧SeqAt.shaped e=true∧Q (.bl (!PyData.eqv d e)) H
theorem uD{X:Cx}(hu:X.A.units+64 < cLine):OpR X (compareOp .Eq) (Bl X.K):=by
 intro pins s σ H x y v u Q I rx ry h
 obtain⟨d,e,hd,he,s1,s2,q⟩:=h
 obtain⟨as,ra⟩:=hd.reads I rx
 obtain⟨bs,rb⟩:=he.reads I ry
 exact eq_dataH ra rb s1 s2 hu ⟨.bl _,H,I,rfl,q⟩
theorem zt{X:Cx}(hu:X.A.units+64 < cLine):OpR X (compareOp .NotEq) (Bm X.K):=by
 intro pins s σ H x y v u Q I rx ry h
 obtain⟨d,e,hd,he,s1,s2,q⟩:=h
 obtain⟨as,ra⟩:=hd.reads I rx
 obtain⟨bs,rb⟩:=he.reads I ry
 exact ne_dataH ra rb s1 s2 hu ⟨.bl _,H,I,rfl,q⟩
end L2
namespace L2
open PySem PySem.Spec PyProof.Rows
section
variable {prog:Program} {w:World} {A:Around} {R:Result→Shared→Prop} {s:Shared}
theorem iH{elt target iter:Expr}{ifs:List Expr}{scope:Scope}{pos:Pos}{it acc:Value}{env:Env}(I:Nat→Shared→Prop)
  (turn:∀n s,I n s→wpAny (model prog w) A (pyNext it) (fun r s₁=>match r with
   |none=>R (.ok .next) s₁
   |some v=>wpAny (model prog w) A (letOwnedTupleGo target it v) (fun _ s₁'=>wpAny (model prog w) A (assign target env v) (fun _ s₂=>
     wpAny (model prog w) A (forIn ifs true fun c r=>if r=true then do let ok ←isTrue c env (eval c env);pure (ForInStep.yield ok)else pure (ForInStep.yield r)) (fun ok s₃=>
      if ok=true then wpAny (model prog w) A (eval elt env) (fun x s₄=>
       wpAny (model prog w) A (call (.builtin "list.append") [acc,x]) (fun _ s₅=>∃m,m < n∧I m s₅) (fun _ _=>False) s₄) (fun _ _=>False) s₃
      else ∃m,m < n∧I m s₃) (fun _ _=>False) s₂) (fun _ _=>False) s₁') (fun _ _=>False) s₁) (fun _ _=>False) s)
  (n:Nat) (h:I n s):
  codeAny (model prog w) A (.compLoop (.ListComp elt [⟨target,iter,ifs,0⟩] scope pos) 0 it acc env) R s:=by
 refine codeAny_loop rfl I (fun n s hI=>?_) n h
 show wpAny _ A ((compTurn (.ListComp elt [⟨target,iter,ifs,0⟩] scope pos) 0 it acc env).onRaise (fun x=>do noteFrame x env;theTreesLotGoes x)) _ _ s
 refine wpAny_noted ?_
 rw[compTurn_list]
 refine wpAny_bind (wpAny_standAt (wpAny_bind (wpAny_mono (turn n s hI) (fun r s₁ h₁=>?_) fun _ _ h'=>h'.elim)))
 cases r with
 |none=>exact wpAny_pure h₁
 |some v=>
  refine wpAny_bind (wpAny_mono h₁ (fun _ s₁' h₁'=>?_) fun _ _ h'=>h'.elim)
  refine wpAny_bind (wpAny_mono h₁' (fun _ s₂ h₂=>wpAny_bind (wpAny_mono h₂ (fun ok s₃ h₃=>?_) fun _ _ h'=>h'.elim)) fun _ _ h'=>h'.elim)
  cases ok with
  |false=>exact wpAny_pure ⟨rfl,h₃⟩
  |true=>
   exact wpAny_bind (wpAny_bind (wpAny_mono h₃ (fun x s₄ h₄=>wpAny_bind (wpAny_mono h₄ (fun _ s₅ h₅=>wpAny_pure (wpAny_pure ⟨rfl,h₅⟩)) fun _ _ h'=>h'.elim)) fun _ _ h'=>h'.elim))
end
def Cx.comp(X:Cx)(sc:Scope)(cl:List (Str×Addr))(N:List Str)(C:Addr)(s₀:Shared)(H₀:Hp)(fp:List Addr):Cx:=
 ⟨X.prog,X.w,X.K,X.mg,X.base,X.A,N,s₀,H₀,⟨sc,C,X.env.globals,cl,X.env.qual,none,X.env.code,X.env.frame,X.env.builtins⟩,X.stack,X.stack,fp,fun _=>false,X.calm,[],fun _ _=>False⟩
def AF(X:Cx)(ifs:List Expr)(t:TT):Prop:=
 ∀(pins:List (Addr×Obj)) (s:Shared) (σ:St) (H:Hp) (Q:Bool→Hp→Prop),Inv X pins σ H s→t σ H Q→
  wpAny (model X.prog X.w) X.A (forIn ifs true fun c r=>if r=true then do let ok ←isTrue c X.env (eval c X.env);pure (ForInStep.yield ok)else pure (ForInStep.yield r)) (TP X pins σ Q) X.xe s
def zu:TT:=fun _ H Q=>Q true H
theorem j7{X:Cx}:AF X [] zu:=fun _ _ _ H _ I h=>wpAny_tests_nil ⟨H,I,h⟩
theorem wS{X:Cx}{c:Expr}{t:TT}(h:PT X c t):AF X [c] t:=fun pins s σ H Q I q=>wpAny_tests_one (h pins s σ H Q I q)
def slots(js:List (Option Nat))(σ:St):St:=js.map fun j=>j.bind fun j=>(σ[j]?).join
def jH(js:List (Option Nat))(wi:TI)(g:TG)(tt:TT)(te:TE):TE:=fun σ H Q=>wi σ H fun J H1=>∀l,H1 l=none→∃W:Nat→Nat→St→Hp→Prop,(∃m,W 0 m (slots js σ) (upd H1 l (.lst [])))∧
 ∀i m σ' H',W i m σ' H'→(J.stop i H'∧Q (.ref l) H')∨(J.go i H'∧∃N:St→Hp→Prop,(∀σ' H',N σ' H'→∃m',m' < m∧W (i+1) m' σ' H')∧∀x H2,J.yld i H' x H2→g x σ' H2 fun σ3 H3=>tt σ3 H3 fun b H4=>
  if b=true then te σ3 H4 fun y H5=>∃ys,H5 l=some (.lst ys)∧ys.length < sizeLine∧N σ3 (upd H5 l (.lst (ys++[y])))else N σ3 H4)
section
variable {X:Cx} {elt target iter:Expr} {ifs:List Expr} {scope sc:Scope} {cl:List (Str×Addr)} {N:List Str} {pos:Pos} {wi:TI} {g:TG} {tt:TT} {te:TE} {js:List (Option Nat)}
structure CompOk (X:Cx) (scope sc:Scope) (cl:List (Str×Addr)) (N:List Str) (js:List (Option Nat)):Prop where
 clos:closureFor scope X.env=pure cl
 rel:relabel scope X.env=sc
 nocell:∀y∈scope.names,y.2≠ .cell
 kind:scope.kind=.function
 names:∀y∈scope.names,y.2=.local→scope.names.lookup y.1=some .local
 same:∀x c,cl.lookup x=some c→X.env.cells.lookup x=some c
 has:∀x,(sc.names.lookup x=some .cell∨sc.names.lookup x=some .free)→∃c,cl.lookup x=some c
 len:js.length=N.length
 from_:∀(i j:Nat),js[i]? =some (some j)→∃x,N[i]? =some x∧X.N[j]? =some x∧(sc.names.lookup x=some .cell∨sc.names.lookup x=some .free)∧(X.env.kindOf x=some .cell∨X.env.kindOf x=some .free)
theorem oq{use:Option (Value→Sem Unit)}{Qv:Value→Shared→Prop}(K:CompOk X scope sc cl N js)(hc:X.calm=true)(hi:PI X target iter wi)
  (hgg:∀C s₀ H₀ fp,PG (X.comp sc cl N C s₀ H₀ fp) target g) (htt:∀C s₀ H₀ fp,AF (X.comp sc cl N C s₀ H₀ fp) ifs tt) (hee:∀C s₀ H₀ fp,PE (X.comp sc cl N C s₀ H₀ fp) elt te)
  (hs:∀x,foldedSetIterable iter X.env x=pure x) (pins:List (Addr×Obj)) (s:Shared) (σ:St) (H:Hp) (Q:VK) (I:Inv X pins σ H s) (h:jH js wi g tt te σ H Q)
  (hend:∀(D C:Addr) (H4:Hp) (s5:Shared) (m:Str→Option Value),Inv X pins σ H4 s5→s5.heap.Ns C m→H4 C=none→C≠X.env.locals→C∉X.fs→X.s₀.heap.objs.size≤C→(∀x c,X.env.cells.lookup x=some c→c≠C)→(∀p∈X.pn++pins,p.1≠C)→Q (.ref D) H4→
   compPost (model X.prog X.w) X.A X.xe use Qv (.ref D) C (.ok .next) s5):
  wpAny (model X.prog X.w) X.A (comprehension (.ListComp elt [⟨target,iter,ifs,0⟩] scope pos) scope X.env (firstIterPos [⟨target,iter,ifs,0⟩] pos) (newList []) false (firstIter [⟨target,iter,ifs,0⟩] X.env) use) Qv X.xe s:=by
 refine wpAny_comprehension_free (use:=use) rfl hs K.clos K.kind K.names (cr (hi pins s σ H _ I h) fun v s1 h1=>cr h1 fun itv s2 h2=>?_)
 obtain⟨it,fp,tn,J,H2,e,I2,T,st2,f2,R⟩:=h2
 subst e
 refine wpAny_newObj_type (wpAny_newFunctionEnv K.nocell (by intro y hy;simp at hy) (fun h₁ hns₁ hsb₁=>?_) K.kind)
 dsimp only at hns₁ hsb₁ ⊢
 have I3:Inv X pins σ (upd H2 s2.heap.objs.size (.lst [])) {s2 with heap:=s2.heap.push {cls:=.type "list",dict:=none,data:=.seq ([]:List Value).toArray}}:=
  I2.lnew (t':=s2.toks) (its:=[]) .nil (Nat.zero_le _)
 obtain⟨W,⟨m0,w0⟩,turn⟩:=R s2.heap.objs.size (I2.hok.fresh (dw _))
 generalize hP:s2.heap.push {cls:=.type "list",dict:=none,data:=.seq ([]:List Value).toArray}=h3 at hns₁ hsb₁ I3 ⊢
 generalize hD:s2.heap.objs.size=D at w0 turn I3 ⊢
 have hsz3:h3.objs.size=D+1:=by rw[←hP,Heap.size_push,hD]
 have old3:∀b o,s2.heap.get? b=some o→h3.get? b=some o:=fun b o e=>by rw[←hP];exact dI _ e
 have old:∀b o,h3.get? b=some o→h₁.get? b=some o:=fun b o e=>hsb₁.extBut b o (eT (eB e)) (dI _ e)
 have fpD:∀b∈fp,b < D:=fun b hb=>by
  obtain⟨o,e,_⟩:=T.obj _ _ st2 b hb
  rw[←hD];exact eB e
 have frD:∀b∈fp,(upd H2 D (.lst [])) b=none:=fun b hb=>by rw[aD (eT (fpD b hb))];exact(f2 b hb).1
 have f3:∀b∈fp,g8 X pins (upd H2 D (.lst [])) b:=fun b hb=>⟨frD b hb,(f2 b hb).2⟩
 have Hfresh:∀a,h3.objs.size≤a→(upd H2 D (.lst [])) a=none:=fun a ha=>I3.hok.fresh ha
 have cellC:∀x c,X.env.cells.lookup x=some c→c < h3.objs.size:=fun x c e=>by
  obtain⟨v,q⟩:=I3.cell x c e
  exact q.lt
 have YOk:(X.comp sc cl N h3.objs.size {s2 with heap:=h3} (upd H2 D (.lst [])) fp).Ok:=by
  refine⟨I3.ok.mod,?_,I3.ok.glob,I3.ok.blt,dw _,fun x y c e1 e2=>I3.ok.inj x y c (K.same x c e1) (K.same y c e2),fun x hx=>K.has x hx,fun x c hf _=>absurd hf (by intro z;cases z),I3.ok.hd,I3.ok.frames,.inl rfl,fun b hb=>⟨?_,fun x c e=>(f2 b hb).2.2.2.2.1 x c (K.same x c e)⟩,
   I3.bs,gG I3.ok.bsz I3.sz,fun b o e hb=>?_,fun b hb hm=>?_,I3.stack,I3.stkFree,I3.tab⟩
  ·rw[←K.rel];exact K.kind
  ·exact eT (by rw[hsz3];exact n_ (fpD b hb))
  ·rcases(f2 b hb).2.2.2.1 with z |z
   ·exact I3.ok.noex b o e z
   ·exact absurd (i7 (eB (I3.ok.bs b o e).1) z) (Nat.lt_irrefl _)
  ·rcases Zap.mp (I3.stkSub b hm)with z |z
   ·exact(f2 b hb).2.1 z
   ·exact(f2 b hb).2.2.1 z
 have IY:Inv (X.comp sc cl N h3.objs.size {s2 with heap:=h3} (upd H2 D (.lst [])) fp) [] (slots js σ) (upd H2 D (.lst [])) {s2 with heap:=h₁,toks:=s2.toks+([]:List (Str×Value)).length}:=by
  refine⟨YOk,rfl,I3.bare,Un.kept old,⟨_,hns₁,fun i x v e1 e2 e3=>?_⟩,fun x c e=>?_,Hfresh _ (dw _),fun x c e=>I3.freeC x c (K.same x c e),fun p hp=>absurd (show p∈([]:List (Addr×Obj))from hp) (by simp),I3.hok.kept old,?_⟩
  ·unfold slots at e2
   rw[qT]at e2
   cases ej:js[i]? with
   |none=>rw[ej]at e2;cases e2
   |some jo=>
    rw[ej]at e2
    cases jo with
    |none=>cases e2
    |some j=>
     obtain⟨y,n1,n2,k1,k2⟩:=K.from_ i j ej
     have exy:y=x:=Option.some.inj (n1.symm.trans e1)
     subst exy
     have e2':(σ[j]?).join=some v:=Option.some.inj e2
     have e4:σ[j]? =some (some v):=by
      cases es:σ[j]? with
      |none=>rw[es]at e2';cases e2'
      |some w=>rw[es]at e2';exact congrArg some e2'
     obtain⟨m,_,hl⟩:=I3.loc
     obtain⟨u,ru,lk⟩:=hl j y v n2 e4 (by
      rcases k2 with z |z
      ·exact .inr (.inl z)
      ·exact .inr (.inr z))
     refine⟨u,ru,.inr ⟨k1,?_⟩⟩
     obtain⟨c,hcl⟩:=K.has y k1
     refine⟨c,hcl,?_⟩
     rcases lk with⟨z,_⟩ |⟨_,c',e5,ic⟩
     ·rcases k2 with q |q
      ·rw[q]at z;cases z
      ·rw[q]at z;cases z
     ·have:c'=c:=Option.some.inj (e5.symm.trans (K.same y c hcl))
      subst this
      obtain⟨o,ho,hd⟩:=ic
      exact⟨o,old _ _ ho,hd⟩
  ·obtain⟨v,o,ho,hd⟩:=I3.cell x c (K.same x c e)
   exact⟨v,o,old _ _ ho,hd⟩
  ·unfold slots;rw[dv];exact K.len
 have mR:∀s₃:Shared,s₃={s2 with heap:=h₁,toks:=s2.toks+([]:List (Str×Value)).length}→
   codeAny (model X.prog X.w) X.A (.compLoop (.ListComp elt [⟨target,iter,ifs,0⟩] scope pos) 0 (.ref it) (.ref D) (X.comp sc cl N h3.objs.size {s2 with heap:=h3} (upd H2 D (.lst [])) fp).env)
    (compPost (model X.prog X.w) X.A X.xe use Qv (.ref D) h3.objs.size) s₃:=by
  rintro s₃ rfl
  refine iH (fun n s'=>∃i σ' H',Inv (X.comp sc cl N h3.objs.size {s2 with heap:=h3} (upd H2 D (.lst [])) fp) [] σ' H' s'∧tn i s'.heap∧(∀b∈fp,H' b=none)∧W i n σ' H') ?_ m0
   ⟨0,_,_,IY,T.keep _ _ _ st2 (fun b hb o e=>old b o (old3 b o e)),frD,w0⟩
  rintro n s4 ⟨i,σ4,H4,I4,st4,fr4,w4⟩
  have ff:∀{H':Hp},(∀b∈fp,H' b=none)→∀b∈fp,g8 (X.comp sc cl N h3.objs.size {s2 with heap:=h3} (upd H2 D (.lst [])) fp) [] H' b:=fun hn b hb=>
   ⟨hn b hb,(YOk.exf b hb).1,YOk.exfs b hb,.inl hb,(YOk.exf b hb).2,fun p hp=>absurd (show p∈([]:List (Addr×Obj))from hp) (by simp)⟩
  have hg:=hgg h3.objs.size {s2 with heap:=h3} (upd H2 D (.lst [])) fp
  have ht:=htt h3.objs.size {s2 with heap:=h3} (upd H2 D (.lst [])) fp
  have he:=hee h3.objs.size {s2 with heap:=h3} (upd H2 D (.lst [])) fp
  rcases turn i n σ4 H4 w4 with⟨stop,qn⟩ |⟨go,Nx,hN,step⟩
  ·refine cr (T.done (X.comp sc cl N h3.objs.size {s2 with heap:=h3} (upd H2 D (.lst [])) fp) rfl rfl rfl hc i [] s4 σ4 H4 _ I4 (ff fr4) st4 stop) fun r s5 ⟨hr,I5⟩=>?_
   subst hr
   obtain⟨m,hn,_⟩:=I5.loc
   have IX:Inv X pins σ H4 s5:=I3.call' (ch:=fp) I5.os I5.base I5.hok I5.bare fun b hb=>⟨(f3 b hb).2.2.2.1,(f3 b hb).2.1,(f3 b hb).2.2.2.2.1,(f3 b hb).2.2.2.2.2⟩
   exact hend D h3.objs.size H4 s5 m IX hn I5.free (Ne.symm (eT I3.lt)) (I3.nofs (dw _)) I3.sz (fun x c e=>eT (cellC x c e)) (fun p hp=>eT (eB (I3.pin p hp).1)) qn
  ·refine cr (T.item (X.comp sc cl N h3.objs.size {s2 with heap:=h3} (upd H2 D (.lst [])) fp) rfl rfl rfl hc i [] s4 σ4 H4 _ I4 (ff fr4) st4 go) fun r s5 ⟨u,hr,h5⟩=>?_
   subst hr
   refine cr h5 fun _ s6 ⟨x,H6,I6,r6,y6,st6,fr6⟩=>?_
   have I6':=I6.pinned (ff fr6) (T.obj _ _ st6)
   have back:∀{σ7:St} {H7:Hp} {s7:Shared},Inv (X.comp sc cl N h3.objs.size {s2 with heap:=h3} (upd H2 D (.lst [])) fp) ([]++gj fp s6.heap) σ7 H7 s7→
     Inv (X.comp sc cl N h3.objs.size {s2 with heap:=h3} (upd H2 D (.lst [])) fp) [] σ7 H7 s7∧tn (i+1) s7.heap∧∀b∈fp,H7 b=none:=fun {σ7 H7 s7} I7=>
    ⟨I7.unpinned,T.keep _ _ _ st6 fun b hb o e=>(I7.pin (b,o) (iD _ (iD _ (cG hb e)))).1,fun b hb=>by
     obtain⟨o,e,d⟩:=T.obj _ _ st6 b hb
     exact(I7.pin (b,o) (iD _ (iD _ (cG hb e)))).2.1⟩
   refine cr (hg _ s6 σ4 H6 x u _ I6' r6 (step x H6 y6)) fun _ s7 ⟨σ7,H7,I7,q7⟩=>?_
   refine cr (ht _ s7 σ7 H7 _ I7 q7) fun b s8 ⟨H8,I8,q8⟩=>?_
   cases b with
   |false=>
    obtain⟨m',hm,w8⟩:=hN σ7 H8 q8
    obtain⟨J1,J2,J3⟩:=back I8
    exact⟨m',hm,i+1,σ7,H8,J1,J2,J3,w8⟩
   |true=>
    refine cr (he _ s8 σ7 H8 _ I8 q8) fun yv s9 ⟨y,H9,I9,r9,ys,hl,hz,n9⟩=>?_
    obtain⟨m',hm,w9⟩:=hN _ _ n9
    refine cr (ja _ s9 σ7 H9 (.ref D) [y] (.ref D) [yv] (fun v H'=>v=.non∧H'=upd H9 D (.lst (ys++[y]))) I9 rfl (.cons r9 .nil) ⟨D,ys,y,rfl,rfl,hl,hz,rfl,rfl⟩) fun _ sA ⟨_,HA,IA,_,_,eA⟩=>?_
    subst eA
    obtain⟨J1,J2,J3⟩:=back IA
    exact⟨m',hm,i+1,σ7,_,J1,J2,J3,w9⟩
 rw[K.rel]
 exact codeAny_compStart_list (mR _ rfl) (T.self _ 0 _ _ _ (T.keep _ _ _ st2 (fun b hb o e=>old b o (old3 b o e))) (mR _ rfl))
theorem m4(K:CompOk X scope sc cl N js)(hc:X.calm=true)(hi:PI X target iter wi)
  (hgg:∀C s₀ H₀ fp,PG (X.comp sc cl N C s₀ H₀ fp) target g) (htt:∀C s₀ H₀ fp,AF (X.comp sc cl N C s₀ H₀ fp) ifs tt) (hee:∀C s₀ H₀ fp,PE (X.comp sc cl N C s₀ H₀ fp) elt te)
  (hs:∀x,foldedSetIterable iter X.env x=pure x:=by intro _;rfl):PE X (.ListComp elt [⟨target,iter,ifs,0⟩] scope pos) (jH js wi g tt te):=by
 intro pins s σ H Q I h
 rw[eval_ListComp]
 refine oq (use:=none) K hc hi hgg htt hee hs pins s σ H Q I h fun D C H4 s5 m IX hn fC nL _ sz nc np qn=>?_
 exact⟨m,hn,fun h' hs'=>⟨.ref D,H4,IX.turned (t':=s5.toks) (it:=C) (fun b o hb e=>(hs'.2 b hb).trans e) fC nL (.inr sz) nc np,rfl,qn⟩⟩
theorem wT{x:Str}{px spos:Pos}{gx:TG}(K:CompOk X scope sc cl N js)(hc:X.calm=true)(hx:PG X (.Name x px) gx)(hi:PI X target iter wi)
  (hgg:∀C s₀ H₀ fp,PG (X.comp sc cl N C s₀ H₀ fp) target g) (htt:∀C s₀ H₀ fp,AF (X.comp sc cl N C s₀ H₀ fp) ifs tt) (hee:∀C s₀ H₀ fp,PE (X.comp sc cl N C s₀ H₀ fp) elt te)
  (hs:∀x,foldedSetIterable iter X.env x=pure x:=by intro _;rfl) (hsw:swapsWith (.ListComp elt [⟨target,iter,ifs,0⟩] scope pos) (some (.Name x px)) spos.line X.env=pure true:=by rfl):
  PS X (.Assign [.Name x px] (.ListComp elt [⟨target,iter,ifs,0⟩] scope pos) spos) (y0 (jH js wi g tt te) gx):=by
 intro pins s σ H D I h
 rw[exec_Assign_Name_used _ _ _ _ hsw]
 refine wpAny_bind (wpAny_standAt (wpAny_bind ?_))
 show wpAny _ _ (comprehension (.ListComp elt [⟨target,iter,ifs,0⟩] scope pos) scope X.env (firstIterPos [⟨target,iter,ifs,0⟩] pos) (newList []) false (firstIter [⟨target,iter,ifs,0⟩] X.env) (some (assign (.Name x px) X.env)) >>= fun _=>pure ()) _ _ _
 refine wpAny_bind (wpAny_mono (oq (use:=some (assign (.Name x px) X.env)) (Qv:=fun _ s'=>∃σ' H',Inv X pins σ' H' s'∧D.nx σ' H') K hc hi hgg htt hee hs pins s σ H _ I h fun Dd C H4 s5 m IX hn fC nL nF sz nc np qn=>?_) (fun _ s' ⟨σ',H',I',q'⟩=>wpAny_pure (wpAny_pure ⟨σ',H',I',q'⟩)) fun _ _ e=>e)
 obtain⟨o,es,ep,ho,hd,r⟩:=hn
 have IP:Inv X ((C,o)::pins) σ H4 s5:=IX.pins_of fun p hp=>(Zap.mp hp).elim (fun z=>by subst z;exact⟨ho,fC,nL,nF,fun v z=>by rw[hd]at z;cases z⟩) fun z=>IX.pin p (iD _ z)
 refine wpAny_mono (hx ((C,o)::pins) s5 σ H4 (.ref Dd) (.ref Dd) D.nx IP rfl qn) (fun _ s6 ⟨σ6,H6,I6,q6⟩=>?_) fun _ _ e=>e
 obtain⟨p1,p2,_⟩:=I6.pin (C,o) (iD _ (f_ ..))
 have I7:Inv X pins σ6 H6 s6:=I6.pins_of fun p hp=>I6.pin p (iD _ (fD _ hp))
 exact⟨m,⟨o,es,ep,p1,hd,r⟩,fun h' hs'=>⟨σ6,H6,I7.turned (t':=s6.toks) (it:=C) (fun b o hb e=>(hs'.2 b hb).trans e) p2 nL (.inr sz) nc np,q6⟩⟩
end
end L2
namespace L2
open PySem PySem.Spec PyProof.Rows
theorem g_{X:Cx}{scope:Scope}{N:List Str}{js:List (Option Nat)}(hf:∀x∈scope.names,x.2≠ .free:=by decide+kernel)(hcell:∀x∈scope.names,x.2≠ .cell:=by decide+kernel)
  (hk:scope.kind=.function:=by rfl) (hn:∀y∈scope.names,y.2=.local→scope.names.lookup y.1=some .local:=by decide+kernel) (hl:js.length=N.length:=by rfl) (hj:∀j∈js,j=none:=by decide):CompOk X scope scope [] N js where
 clos:=closureFor_none hf
 rel:=by
  unfold relabel
  have e:(scope.names.map fun(x:Str×NameKind)=>match x with |(n,k)=>if (k ==.free&&X.env.scope.kind ==.function&&X.env.kindOf n == some .cell)then (n,NameKind.cell)else (n,k))=scope.names:=by
   refine map_eq_self fun x hx=>?_
   obtain⟨n,k⟩:=x
   have:(k == NameKind.free)=false:=by simpa using hf _ hx
   simp[this]
  rw[e]
 nocell:=hcell
 kind:=hk
 names:=hn
 same:=fun x c e=>by simp at e
 has:=fun x h=>by
  rcases h with h |h
  ·exact absurd rfl (hcell _ (PySem.mem_of_lookup h))
  ·exact absurd rfl (hf _ (PySem.mem_of_lookup h))
 len:=hl
 from_:=fun i j h=>by
  have:=hj _ (List.mem_of_getElem? h)
  cases this
structure Own (P:Program) (w:World) (K:Frag) (mg:Str→Option Value) (base:Heap) (k:Nat) (x:Str) (ps:List Str) (sp:Sp):Prop where
 ex:∃(f:Addr) (fd:FuncData),FnOk P w K mg base pU k f fd ps sp∧Binds K fd ps []∧mg x=some (.ref f)∧keepIn K (.ref f)=true
theorem zv{X:Cx}{k:Nat}{x:Str}{ps:List Str}{sp:Sp}{p pos:Pos}{e:Expr}{es:List Expr}{t:TA}(D:Own X.prog X.w X.K X.mg X.base k x ps sp)(hr:Room k X.A)(hg:Gl X x)(ha:PA X (e::es) t)
  (hdb:(x == ("__debug__":Str))=false:=by decide) (he:starEach (e::es) X.env=(false,eval e X.env)::starEach es X.env:=by rfl) (hpl:(backTo pos (starEach es X.env)).any (·.1)=false:=by rfl):
  PE X (.Call (.Name x p) (e::es) [] pos) (kl sp [] E0 t):=by
 obtain⟨f,fd,F,b,m,kp⟩:=D.ex
 exact wG F hr hg m kp b .nil uC ha hdb he hpl
structure Def (K:Frag) (mg:Str→Option Value) (x:Str) (st:Stmt) (ps:List Str):Prop where
 ex:∃(f:Addr) (fd:FuncData),Fun K x x st f fd∧mg x=some (.ref f)∧Binds K fd ps []
theorem Def.own{P:Program}{w:World}{K:Frag}{mg:Str→Option Value}{base:Heap}{x:Str}{st:Stmt}{N ps:List Str}{k:Nat}{sp:Sp}(D:Def K mg x st ps)(S:FnScope N ps (ag st))
  (len:∀vs H Q E,sp vs H Q E→vs.length=ps.length)
  (hbody:∀(f:Addr) (cdv:Value) (A:Around) (outer:List Env) (s:Shared) (H:Hp) (vs:List V) (Q:VK) (E:XK),Room k (A.deeper (envOfC x (ag st) s.heap.objs.size f cdv))→sp vs H Q E→
   ∃t,PSs (g9 pU P w K mg base N x (ag st) f cdv A outer s H E).nox (bh st) t∧t {nx:=fun _ H'=>Q .non H',rt:=Q} (dg N vs) H):Own P w K mg base (k+1) x ps sp:=by
 obtain⟨f,fd,F,m,b⟩:=D.ex
 exact⟨f,fd,F.ok S len (hbody f),b,m,F.kp⟩
theorem zw{K:Frag}{h:Heap}{mg:Str→Option Value}{x:Str}{st:Stmt}{ps:List Str}{f:Addr}{oc:Value}{od an:Option Addr}{osl:Array (Option Value)}{kV doc pm cdv ct:Value}(X:K.In h)(G:h.Ns mainGlobals mg)
  (a:nsIn K mainGlobals x=some (some (.ref f))) (l:K.lookup f=some ⟨oc,od,.func (fnOf x x (cL st) (bh st) (ag st) .none kV doc pm an cdv ct),osl⟩)
  (c:codeIn K cdv x=true) (k:keepIn K (.ref f)=true)
  (b:∀(kV doc pm:Value) (an:Option Addr) (cdv ct:Value) (us:List Value),us.length=ps.length→bindArgs (fnOf x x (cL st) (bh st) (ag st) .none kV doc pm an cdv ct) ⟨us,[]⟩=pure (ps.zip us)):Def K mg x st ps:=
 ⟨f,_,qc l c k,mg_of X G a,(qc (st:=st) l c k).binds b⟩
end L2
namespace Nh
open PySem L2
section
variable {α β:Type} {F:α→β→Prop}
theorem gJ:∀{a:List α} {b:List β} {c:List α} {d:List β},Paired F a b→Paired F c d→Paired F (a++c) (b++d)
 |_,_,_,_,.nil,s=>s
 |_,_,_,_,.cons r t,s=>.cons r (gJ t s)
theorem rc:∀{a:List α} {b:List β} (n:Nat),Paired F a b→Paired F (a.take n) (b.take n)
 |_,_,0,_=>.nil
 |_,_,_+1,.nil=>.nil
 |_,_,n+1,.cons r t=>.cons r (rc n t)
theorem re:∀{a:List α} {b:List β} (n:Nat),Paired F a b→Paired F (a.drop n) (b.drop n)
 |_,_,0,r=>r
 |_,_,_+1,.nil=>.nil
 |_,_,n+1,.cons _ t=>re n t
theorem hE:∀{a:List α} {b:List β},Paired F a b→Paired F a.reverse b.reverse
 |_,_,.nil=>.nil
 |_,_,.cons r t=>by
  rw[List.reverse_cons,List.reverse_cons]
  exact gJ (hE t) (.cons r .nil)
theorem rf:∀{a:List α} {b:List β} {i:Nat} {y:β},Paired F a b→b[i]? =some y→∃x,a[i]? =some x∧F x y
 |_,_,_,_,.nil,e=>by simp at e
 |_,_,0,_,.cons r _,e=>by simp at e;subst e;exact⟨_,rfl,r⟩
 |_,_,i+1,x,.cons _ t,e=>by
  obtain⟨u,h1,h2⟩:=rf (i:=i) (y:=x) t (by simpa using e)
  exact⟨u,by simpa using h1,h2⟩
theorem uE{a:List α}{b:List β}(h:Paired F a b):∀k:Nat,Paired F (List.replicate k a).flatten (List.replicate k b).flatten
 | 0=>.nil
 |k+1=>by
  rw[List.replicate_succ,List.replicate_succ,List.flatten_cons,List.flatten_cons]
  exact gJ h (uE h k)
end
abbrev Pc:=Nat×Int
def tv(p:Pc):List V:=[.str ⟨#[p.1]⟩,.int p.2]
def Cl(H:Hp)(v:V)(p:Pc):Prop:=∃t,v=.ref t∧H t=some (.tup (tv p))
abbrev PAll(H:Hp):List V→List Pc→Prop:=Paired (Cl H)
section
variable {H H':Hp} {l:Addr} {xs ys:List V} {c:List Pc}
theorem PAll.same(s:Same H H')(h:PAll H xs c):PAll H' xs c:=Paired.mapP h fun _ _ ⟨t,e,q⟩=>⟨t,e,s _ _ q⟩
theorem PAll.len(h:PAll H xs c):xs.length=c.length:=Paired.length h
end
def Cord(H:Hp)(a:Addr)(c:List Pc):Prop:=∃xs,H a=some (.lst xs)∧PAll H xs c
section
variable {H H':Hp} {a:Addr} {c d:List Pc}
theorem Cord.same(s:Same H H')(h:Cord H a c):Cord H' a c:=let ⟨xs,e,p⟩:=h;⟨xs,s _ _ e,p.same s⟩
end
def CI(p:Pc):PyData:=.tuple [.str ⟨#[p.1]⟩,.int p.2]
def Bo(c:List Pc):PyData:=.list (c.map CI)
def NailsOk(c:List Pc):Prop:=∀p∈c,p.1 < 128
theorem l8{K:Frag}{H:Hp}:∀{xs:List V} {c:List Pc},PAll H xs c→DAll K H xs (c.map CI)
 |_,_,.nil=>.nil
 |_,_,.cons ⟨t,e,q⟩ r=>by
  subst e
  exact .cons (.tup (SqT.of q) (.cons (.str _) (.cons (.int _) .nil))) (l8 r)
theorem Cord.data{K:Frag}{H:Hp}{a:Addr}{c:List Pc}(h:Cord H a c):DOf K H (.ref a) (Bo c):=
 let ⟨_,e,p⟩:=h; .lst (SqL.of e) (l8 p)
end Nh
namespace PL
open PySem PySem.Spec PyProof.Rows L2 Nh
def Cn:cU→PyData
 |.inl i=>.int i
 |.inr x=>.str x
mutual
inductive Rp (K:Frag) (H:Hp):V→PyData→Prop
 |non:Rp K H .non .none
 |bl (b:Bool):Rp K H (.bl b) (.bool b)
 |int (i:Int):Rp K H (.int i) (.int i)
 |str (x:Str):Rp K H (.str x) (.str x)
 |lst {a:Addr} {xs:List V} {ds:List PyData}:SqL K H a xs→RpA K H xs ds→Rp K H (.ref a) (.list ds)
 |tup {a:Addr} {xs:List V} {ds:List PyData}:SqT K H a xs→RpA K H xs ds→Rp K H (.ref a) (.tuple ds)
 |dct {a:Addr} {us:List (cU×V)} {kvs:List (PyData×PyData)}:Rd H a (.dK us)→RpK K H us kvs→Rp K H (.ref a) (.dict kvs)
inductive RpA (K:Frag) (H:Hp):List V→List PyData→Prop
 |nil:RpA K H [] []
 |cons {x:V} {xs:List V} {d:PyData} {ds:List PyData}:Rp K H x d→RpA K H xs ds→RpA K H (x::xs) (d::ds)
inductive RpK (K:Frag) (H:Hp):List (cU×V)→List (PyData×PyData)→Prop
 |nil:RpK K H [] []
 |cons {k:cU} {x:V} {us:List (cU×V)} {d:PyData} {kvs:List (PyData×PyData)}:Rp K H x d→RpK K H us kvs→RpK K H ((k,x)::us) ((Cn k,d)::kvs)
end
mutual
def cE:PyData→Bool
 |.none=>true
 |.bool _=>true
 |.int _=>true
 |.str _=>true
 |.list _=>false
 |.tuple xs=>bx xs
 |.dict _=>false
def bx:List PyData→Bool
 |[]=>true
 |d::ds=>cE d&&bx ds
end
def yr:HO→Bool
 |.tup _=>true
 |.frz _ _=>true
 |_=>false
def tups(H:Hp):Hp:=fun b=>(H b).filter yr
theorem jb(H:Hp):Same (tups H) H:=fun b o h=>(Option.filter_eq_some_iff.mp h).1
theorem iI{H:Hp}{b:Addr}{o:HO}(h:H b=some o)(c:yr o=true):tups H b=some o:=Option.filter_eq_some_iff.mpr ⟨h,c⟩
theorem ou{H:Hp}{l:Addr}{xs ys:List V}(h:H l=some (.lst xs)):tups (upd H l (.lst ys))=tups H:=by
 funext b
 unfold tups
 by_cases e:b=l
 ·subst e
  rw[bF,h]
  rfl
 ·rw[aD e]
section
variable {K:Frag} {H H':Hp}
theorem ov{a:Addr}{xs:List V}(h:SqT K H a xs):SqT K (tups H) a xs:=by
 rcases h with(h |⟨o,h⟩) |h
 ·exact .inl (.inl (iI h rfl))
 ·exact .inl (.inr ⟨o,iI h rfl⟩)
 ·exact .inr h
theorem m5{a:Addr}{u:HO}(s:Same H H')(h:Rd H a u):Rd H' a u:=by
 rcases h with h |⟨o,h⟩
 ·exact .inl (s _ _ h)
 ·exact .inr ⟨o,s _ _ h⟩
theorem Rp.same(s:Same H H'){v:V}{d:PyData}(h:Rp K H v d):Rp K H' v d:=Rp.rec (motive_1:=fun v d _=>Rp K H' v d) (motive_2:=fun v d _=>RpA K H' v d) (motive_3:=fun v d _=>RpK K H' v d) .non .bl .int .str (fun h _ r=>.lst (s.seq h) r) (fun h _ r=>.tup (s.tup h) r) (fun h _ r=>.dct (m5 s h) r) .nil (fun _ _ a b=>.cons a b) .nil (fun _ _ a b=>.cons a b) h
theorem RpA.same(s:Same H H'){v:List V}{d:List PyData}(h:RpA K H v d):RpA K H' v d:=RpA.rec (motive_1:=fun v d _=>Rp K H' v d) (motive_2:=fun v d _=>RpA K H' v d) (motive_3:=fun v d _=>RpK K H' v d) .non .bl .int .str (fun h _ r=>.lst (s.seq h) r) (fun h _ r=>.tup (s.tup h) r) (fun h _ r=>.dct (m5 s h) r) .nil (fun _ _ a b=>.cons a b) .nil (fun _ _ a b=>.cons a b) h
theorem RpK.same(s:Same H H'){v:List (cU×V)}{d:List (PyData×PyData)}(h:RpK K H v d):RpK K H' v d:=RpK.rec (motive_1:=fun v d _=>Rp K H' v d) (motive_2:=fun v d _=>RpA K H' v d) (motive_3:=fun v d _=>RpK K H' v d) .non .bl .int .str (fun h _ r=>.lst (s.seq h) r) (fun h _ r=>.tup (s.tup h) r) (fun h _ r=>.dct (m5 s h) r) .nil (fun _ _ a b=>.cons a b) .nil (fun _ _ a b=>.cons a b) h
theorem Rp.cold{v:V}{d:PyData}(h:Rp K H v d)(e:cE d=true):Rp K (tups H) v d:=Rp.rec (motive_1:=fun v d _=>cE d=true→Rp K (tups H) v d) (motive_2:=fun v d _=>bx d=true→RpA K (tups H) v d) (motive_3:=fun _ _ _=>True) (fun _=>.non) (fun b _=>.bl b) (fun i _=>.int i) (fun x _=>.str x) (fun _ _ _ e=>nomatch e) (fun h _ r e=>.tup (ov h) (r e)) (fun _ _ _ e=>nomatch e) (fun _=>.nil) (fun _ _ a b e=>.cons (a (Bool.and_eq_true_iff.mp e).1) (b (Bool.and_eq_true_iff.mp e).2)) trivial (fun _ _ _ _=>trivial) h e
theorem RpA.cold{v:List V}{d:List PyData}(h:RpA K H v d)(e:bx d=true):RpA K (tups H) v d:=RpA.rec (motive_1:=fun v d _=>cE d=true→Rp K (tups H) v d) (motive_2:=fun v d _=>bx d=true→RpA K (tups H) v d) (motive_3:=fun _ _ _=>True) (fun _=>.non) (fun b _=>.bl b) (fun i _=>.int i) (fun x _=>.str x) (fun _ _ _ e=>nomatch e) (fun h _ r e=>.tup (ov h) (r e)) (fun _ _ _ e=>nomatch e) (fun _=>.nil) (fun _ _ a b e=>.cons (a (Bool.and_eq_true_iff.mp e).1) (b (Bool.and_eq_true_iff.mp e).2)) trivial (fun _ _ _ _=>trivial) h e
theorem Rp.dof'{v:V}{d:PyData}(h:Rp K H v d)(e:d.canLay0=true):DOf K H v d:=Rp.rec (motive_1:=fun v d _=>d.canLay0=true→DOf K H v d) (motive_2:=fun v d _=>PyData.canLayAll0 d=true→DAll K H v d) (motive_3:=fun _ _ _=>True) (fun _=>.non) (fun b _=>.bl b) (fun i _=>.int i) (fun x _=>.str x) (fun h _ r e=>.lst h (r e)) (fun h _ r e=>.tup h (r e)) (fun _ _ _ e=>nomatch e) (fun _=>.nil) (fun _ _ a b e=>.cons (a (Bool.and_eq_true_iff.mp e).1) (b (Bool.and_eq_true_iff.mp e).2)) trivial (fun _ _ _ _=>trivial) h e
theorem Rp.dof{v:V}{d:PyData}(h:Rp K H v d)(e:SeqAt.shaped d=true):DOf K H v d:=h.dof' (SeqAt.canLay_of_shaped e)
theorem RpA.pr{vs:List V}{ds:List PyData}(h:RpA K H vs ds):Paired (Rp K H) vs ds:=RpA.rec (motive_1:=fun _ _ _=>True) (motive_2:=fun v d _=>Paired (Rp K H) v d) (motive_3:=fun _ _ _=>True) trivial (fun _=>trivial) (fun _=>trivial) (fun _=>trivial) (fun _ _ _=>trivial) (fun _ _ _=>trivial) (fun _ _ _=>trivial) .nil (fun h _ _ b=>.cons h b) trivial (fun _ _ _ _=>trivial) h
theorem RpA.of{vs:List V}{ds:List PyData}(h:Paired (Rp K H) vs ds):RpA K H vs ds:=by
 induction h with
 |nil=>exact .nil
 |cons a _ b=>exact .cons a b
theorem RpA.len{vs:List V}{ds:List PyData}(h:RpA K H vs ds):vs.length=ds.length:=Paired.length h.pr
theorem RpA.append{vs us:List V}{ds es:List PyData}(h:RpA K H vs ds)(k:RpA K H us es):RpA K H (vs++us) (ds++es):=.of (gJ h.pr k.pr)
theorem RpA.take{vs:List V}{ds:List PyData}(n:Nat)(h:RpA K H vs ds):RpA K H (vs.take n) (ds.take n):=.of (rc n h.pr)
theorem RpA.drop{vs:List V}{ds:List PyData}(n:Nat)(h:RpA K H vs ds):RpA K H (vs.drop n) (ds.drop n):=.of (re n h.pr)
theorem RpA.rev{vs:List V}{ds:List PyData}(h:RpA K H vs ds):RpA K H vs.reverse ds.reverse:=.of (hE h.pr)
theorem RpA.rep{vs:List V}{ds:List PyData}(n:Nat)(h:RpA K H vs ds):RpA K H (List.replicate n vs).flatten (List.replicate n ds).flatten:=.of (uE h.pr n)
theorem RpA.get{vs:List V}{ds:List PyData}{i:Nat}{d:PyData}(h:RpA K H vs ds)(e:ds[i]? =some d):∃v,vs[i]? =some v∧Rp K H v d:=rf h.pr e
theorem RpA.set:∀{vs:List V} {ds:List PyData} {v:V} {d:PyData} (i:Nat),RpA K H vs ds→Rp K H v d→RpA K H (vs.set i v) (ds.set i d)
 |_,_,_,_,_,.nil,_=>.nil
 |_,_,_,_,0,.cons _ r,h=>.cons h r
 |_,_,_,_,i+1,.cons q r,h=>.cons q (RpA.set i r h)
theorem RpA.snoc{vs:List V}{ds:List PyData}{v:V}{d:PyData}(h:RpA K H vs ds)(k:Rp K H v d):RpA K H (vs++[v]) (ds++[d]):=h.append (.cons k .nil)
end
inductive Pt where
 |fl (d:PyData) |ol (ds:List PyData)
def Pt.val:Pt→PyData
 |.fl d=>d
 |.ol ds=>.list ds
inductive Sl where
 /-- nothing is known -/
 |no
 /-- never written again -/
 |sh (d:PyData)
 /-- a list of one's own -/
 |ow (ds:List PyData)
 /-- a dict of one's own,its values lists of one's own -/
 |od (kvs:List (cU×List PyData))
 /-- a dict of one's own,its values cE -/
 |oi (kvs:List (cU×PyData))
 /-- a tuple with lists of one's own -/
 |tx (ps:List Pt)
 /-- (a part of an expression) the value of a name -/
 |al (i:Nat)
 /-- (a part of an expression) as it stands just now -/
 |br (d:PyData)
def PtsOk(K:Frag)(F H:Hp):List V→List Pt→List Addr→Prop
 |[],[],A=>A=[]
 |v::vs,.fl d::ps,A=>Rp K F v d∧PtsOk K F H vs ps A
 |v::vs,.ol ds::ps,A=>∃l us A',v=.ref l∧A=l::A'∧H l=some (.lst us)∧RpA K F us ds∧PtsOk K F H vs ps A'
 |_,_,_=>False
def KvOk(K:Frag)(F:Hp):List (cU×V)→List (cU×PyData)→Prop:=Paired fun p q=>p.1=q.1∧Rp K F p.2 q.2
def DlOk(K:Frag)(F H:Hp):List (cU×V)→List (cU×List PyData)→List Addr→Prop
 |[],[],A=>A=[]
 |p::us,q::kvs,A=>∃l vs A',p=(q.1,.ref l)∧A=l::A'∧H l=some (.lst vs)∧RpA K F vs q.2∧DlOk K F H us kvs A'
 |_,_,_=>False
def SlOk(K:Frag)(F H:Hp)(σ:L2.St)(o:Option V):Sl→List Addr→Prop
 |.no,A=>A=[]
 |.sh d,A=>A=[]∧∃v,o=some v∧Rp K F v d
 |.ow ds,A=>∃l vs,o=some (.ref l)∧A=[l]∧H l=some (.lst vs)∧RpA K F vs ds
 |.od kvs,A=>∃l us A',o=some (.ref l)∧A=l::A'∧H l=some (.dK us)∧DlOk K F H us kvs A'
 |.oi kvs,A=>∃l us,o=some (.ref l)∧A=[l]∧H l=some (.dK us)∧KvOk K F us kvs
 |.tx ps,A=>∃t vs,o=some (.ref t)∧F t=some (.tup vs)∧PtsOk K F H vs ps A
 |.al i,A=>A=[]∧∃v,o=some v∧σ[i]? =some (some v)
 |.br d,A=>A=[]∧∃v,o=some v∧Rp K H v d
def Sl.isBr:Sl→Bool
 |.br _=>true
 |_=>false
def Sl.isAl:Sl→Bool
 |.al _=>true
 |.br _=>true
 |_=>false
section
variable {K:Frag} {F F' H H':Hp} {σ σ':L2.St}
theorem PtsOk.stay(s:Same F F'):∀{vs:List V} {ps:List Pt} {A:List Addr},(∀b∈A,H' b=H b)→PtsOk K F H vs ps A→PtsOk K F' H' vs ps A
 |[],[],A,_,h=>h
 |v::vs,.fl d::ps,A,e,h=>⟨h.1.same s,PtsOk.stay s e h.2⟩
 |v::vs,.ol ds::ps,A,e,h=>by
  obtain⟨l,us,A',rfl,rfl,hl,hr,q⟩:=h
  exact⟨l,us,A',rfl,rfl,(e l (f_ ..)).trans hl,hr.same s,q.stay s fun b hb=>e b (fD _ hb)⟩
 |[],_::_,_,_,h=>False.elim h
 |_::_,[],_,_,h=>False.elim h
theorem DlOk.stay(s:Same F F'):∀{us:List (cU×V)} {kvs:List (cU×List PyData)} {A:List Addr},(∀b∈A,H' b=H b)→DlOk K F H us kvs A→DlOk K F' H' us kvs A
 |[],[],A,_,h=>h
 |p::us,q::kvs,A,e,h=>by
  obtain⟨l,vs,A',rfl,rfl,hl,hr,k⟩:=h
  exact⟨l,vs,A',rfl,rfl,(e l (f_ ..)).trans hl,hr.same s,k.stay s fun b hb=>e b (fD _ hb)⟩
 |[],_::_,_,_,h=>False.elim h
 |_::_,[],_,_,h=>False.elim h
theorem DlOk.some:∀{us:List (cU×V)} {kvs:List (cU×List PyData)} {A:List Addr},DlOk K F H us kvs A→∀a∈A,∃vs,H a=some (.lst vs)
 |[],[],A,h,a,ha=>by rw[show A=[]from h]at ha;cases ha
 |p::us,q::kvs,A,h,a,ha=>by
  obtain⟨l,vs,A',rfl,rfl,hl,hr,k⟩:=h
  rcases Zap.mp ha with e |e
  ·subst e;exact⟨vs,hl⟩
  ·exact k.some a e
 |[],_::_,_,h,_,_=>False.elim h
 |_::_,[],_,h,_,_=>False.elim h
theorem PtsOk.some:∀{vs:List V} {ps:List Pt} {A:List Addr},PtsOk K F H vs ps A→∀a∈A,∃us,H a=some (.lst us)
 |[],[],A,h,a,ha=>by rw[show A=[]from h]at ha;cases ha
 |v::vs,.fl d::ps,A,h,a,ha=>PtsOk.some h.2 a ha
 |v::vs,.ol ds::ps,A,h,a,ha=>by
  obtain⟨l,us,A',rfl,rfl,hl,hr,q⟩:=h
  rcases Zap.mp ha with e |e
  ·subst e;exact⟨us,hl⟩
  ·exact q.some a e
 |[],_::_,_,h,_,_=>False.elim h
 |_::_,[],_,h,_,_=>False.elim h
theorem PtsOk.rp(s:Same F H):∀{vs:List V} {ps:List Pt} {A:List Addr},PtsOk K F H vs ps A→RpA K H vs (ps.map Pt.val)
 |[],[],A,_=>.nil
 |v::vs,.fl d::ps,A,h=>.cons (h.1.same s) (PtsOk.rp s h.2)
 |v::vs,.ol ds::ps,A,h=>by
  obtain⟨l,us,A',rfl,rfl,hl,hr,q⟩:=h
  exact .cons (.lst (SqL.of hl) (hr.same s)) (q.rp s)
 |[],_::_,_,h=>False.elim h
 |_::_,[],_,h=>False.elim h
theorem KvOk.same(s:Same F F'){us:List (cU×V)}{kvs:List (cU×PyData)}(h:KvOk K F us kvs):KvOk K F' us kvs:=by
 induction h with
 |nil=>exact .nil
 |cons a _ b=>exact .cons ⟨a.1,a.2.same s⟩ b
theorem SlOk.stay{o:Option V}{s:Sl}{A:List Addr}(hF:Same F F')(e:∀b∈A,H' b=H b)(hb:s.isBr=true→Same H H')(h:SlOk K F H σ o s A):SlOk K F' H' σ o s A:=by
 cases s with
 |no=>exact h
 |sh d=>obtain⟨rfl,v,rfl,r⟩:=h;exact⟨rfl,v,rfl,r.same hF⟩
 |ow ds=>obtain⟨l,vs,rfl,rfl,hl,r⟩:=h;exact⟨l,vs,rfl,rfl,(e l (by simp)).trans hl,r.same hF⟩
 |od kvs=>obtain⟨l,us,A',rfl,rfl,hl,r⟩:=h;exact⟨l,us,A',rfl,rfl,(e l (by simp)).trans hl,r.stay hF fun b hb=>e b (fD _ hb)⟩
 |oi kvs=>obtain⟨l,us,rfl,rfl,hl,r⟩:=h;exact⟨l,us,rfl,rfl,(e l (by simp)).trans hl,r.same hF⟩
 |tx ps=>obtain⟨t,vs,rfl,ht,r⟩:=h;exact⟨t,vs,rfl,hF _ _ ht,r.stay hF e⟩
 |al i=>exact h
 |br d=>obtain⟨rfl,v,rfl,r⟩:=h;exact⟨rfl,v,rfl,r.same (hb rfl)⟩
theorem SlOk.mut{o:Option V}{s:Sl}{A:List Addr}(h:SlOk K F H σ o s A):∀a∈A,(∃us,H a=some (.lst us))∨∃us,H a=some (.dK us):=by
 cases s with
 |no=>intro a ha;rw[show A=[]from h]at ha;cases ha
 |sh d=>obtain⟨rfl,_⟩:=h;intro a ha;cases ha
 |ow ds=>obtain⟨l,vs,rfl,rfl,hl,r⟩:=h;intro a ha;rw[Zaf.mp ha];exact .inl ⟨_,hl⟩
 |od kvs=>
  obtain⟨l,vs,A',rfl,rfl,hl,r⟩:=h
  intro a ha
  rcases Zap.mp ha with z |z
  ·rw[z];exact .inr ⟨_,hl⟩
  ·exact .inl (r.some a z)
 |oi kvs=>obtain⟨l,us,rfl,rfl,hl,r⟩:=h;intro a ha;rw[Zaf.mp ha];exact .inr ⟨_,hl⟩
 |tx ps=>obtain⟨t,vs,rfl,ht,r⟩:=h;exact fun a ha=>.inl (r.some a ha)
 |al i=>obtain⟨rfl,_⟩:=h;intro a ha;cases ha
 |br d=>obtain⟨rfl,_⟩:=h;intro a ha;cases ha
end
inductive SAll (P:Option V→Sl→List Addr→Prop):List (Option V)→List Sl→List Addr→Prop
 |nil:SAll P [] [] []
 |cons {o:Option V} {s:Sl} {A:List Addr} {os:List (Option V)} {ss:List Sl} {B:List Addr}:P o s A→SAll P os ss B→SAll P (o::os) (s::ss) (A++B)
section
variable {P P':Option V→Sl→List Addr→Prop}
theorem SAll.len{os:List (Option V)}{ss:List Sl}{A:List Addr}(h:SAll P os ss A):os.length=ss.length:=by
 induction h with
 |nil=>rfl
 |cons _ _ b=>exact congrArg (· +1) b
theorem SAll.mono{os:List (Option V)}{ss:List Sl}{A:List Addr}(h:SAll P os ss A):(∀o s B,s∈ss→(∀b∈B,b∈A)→P o s B→P' o s B)→SAll P' os ss A:=by
 induction h with
 |nil=>exact fun _=>.nil
 |cons h _ r=>exact fun f=>.cons (f _ _ _ (f_ ..) (fun b hb=>List.mem_append_left _ hb) h) (r fun o s B hs hB q=>f o s B (fD _ hs) (fun b hb=>iD _ (hB b hb)) q)
theorem SAll.all{R:Addr→Prop}(hR:∀o s B,P o s B→∀b∈B,R b){os:List (Option V)}{ss:List Sl}{A:List Addr}(h:SAll P os ss A):∀a∈A,R a:=by
 induction h with
 |nil=>exact fun _ ha=>nomatch ha
 |cons h _ r=>exact fun a ha=>(Zao.mp ha).elim (hR _ _ _ h a) (r a)
theorem SAll.at:∀{os:List (Option V)} {ss:List Sl} {A:List Addr} {k:Nat} {s:Sl},SAll P os ss A→ss[k]? =some s→
  ∃o A0 A1 A2,A=A0++(A1++A2)∧os[k]? =some o∧P o s A1∧∀(P':Option V→Sl→List Addr→Prop) (o':Option V) (s':Sl) (A1':List Addr),P' o' s' A1'→
   (∀o s B,s∈ss→(∀b∈B,b∈A0∨b∈A2)→P o s B→P' o s B)→SAll P' (os.set k o') (ss.set k s') (A0++(A1'++A2))
 |_,_,_,_,_,.nil,e=>by simp at e
 |_,_,_,0,s,.cons (o:=o) (A:=A) (B:=B) h r,e=>by
  simp at e;subst e
  refine⟨o,[],A,B,by simp,rfl,h,fun P' o' s' A1' h' f=>?_⟩
  have z:SAll P' _ _ (A1'++B):=.cons h' (r.mono (P':=P') fun o s B hs hB q=>f o s B (fD _ hs) (fun b hb=>.inr (hB b hb)) q)
  exact z
 |_,_,_,k+1,s,.cons (o:=o) (A:=A) (B:=B) h r,e=>by
  obtain⟨o2,A0,A1,A2,eA,eo,hp,f⟩:=r.at (k:=k) (s:=s) (by simpa using e)
  subst eA
  refine⟨o2,A++A0,A1,A2,by simp,by simpa using eo,hp,fun P' o' s' A1' h' g=>?_⟩
  have z:=f P' o' s' A1' h' fun o s B hs hB q=>g o s B (fD _ hs) (fun b hb=>(hB b hb).imp (fun x=>iD _ x) id) q
  rw[lA]
  exact .cons (g _ _ _ (f_ ..) (fun b hb=>.inl (List.mem_append_left _ hb)) h) z
end
end PL
namespace PL
open PySem L2 Nh
abbrev Sg:=L2.St
structure FrF (K:Frag) (B F:Hp) (A:List Addr) (σ:Sg) (H:Hp) (E:List Sl) (xs:List V) (Xs:List Sl):Prop where
 bf:Same B F
 fh:Same F H
 tf:Same (tups H) F
 sl:SAll (SlOk K F H σ) (xs.map some++σ) (Xs++E) A
 nd:A.Nodup
 fr:∀a∈A,F a=none
 len:xs.length=Xs.length
 pl:∀s∈E,s.isAl=false
def Frm(K:Frag)(B:Hp)(σ:Sg)(H:Hp)(E:List Sl)(xs:List V)(Xs:List Sl):Prop:=∃F A,FrF K B F A σ H E xs Xs
def Sl.val:Sl→Option PyData
 |.sh d=>some d
 |.ow ds=>some (.list ds)
 |.tx ps=>some (.tuple (ps.map Pt.val))
 |.br d=>some d
 |_=>none
def look(E:List Sl):Sl→Option PyData
 |.al i=>(E[i]?).bind Sl.val
 |s=>s.val
def jc:Sl→Bool
 |.br _=>true
 |.tx _=>true
 |_=>false
def gR(E:List Sl):Sl→Bool
 |.al i=>(E[i]?).any jc
 |s=>jc s
def RpF(K:Frag)(F H:Hp)(v:V):PyData→Prop
 |.list ds=>∃a vs,v=.ref a∧SqL K H a vs∧RpA K F vs ds
 |d=>Rp K F v d
def over(F H:Hp)(A:List Addr):Hp:=fun b=>if b∈A then H b else F b
theorem m6{F H:Hp}{A:List Addr}{b:Addr}(h:b∈A):over F H A b=H b:=if_pos h
theorem kn{F H:Hp}{A:List Addr}{b:Addr}(h:b∉A):over F H A b=F b:=if_neg h
section
variable {K:Frag} {B F:Hp} {A:List Addr} {σ:Sg} {H:Hp} {E:List Sl} {xs:List V} {Xs:List Sl} {v:V} {s:Sl} {d:PyData}
theorem RpF.of(h:Rp K F v d)(s:Same F H):RpF K F H v d:=by
 cases h with
 |lst h r=>exact⟨_,_,rfl,s.seq h,r⟩
 |non=>exact .non
 |bl b=>exact .bl b
 |int i=>exact .int i
 |str x=>exact .str x
 |tup h r=>exact .tup h r
 |dct h r=>exact .dct h r
theorem SlOk.val{o:Option V}{A1:List Addr}(h:SlOk K F H σ o s A1)(hF:Same F H)(e:s.val=some d):∃v,o=some v∧Rp K H v d∧(jc s=false→RpF K F H v d):=by
 cases s with
 |no=>cases e
 |sh d'=>
  obtain⟨rfl,v,rfl,r⟩:=h
  cases e
  exact⟨v,rfl,r.same hF,fun _=>RpF.of r hF⟩
 |ow ds=>
  obtain⟨l,vs,rfl,rfl,hl,r⟩:=h
  cases e
  exact⟨_,rfl,.lst (SqL.of hl) (r.same hF),fun _=>⟨_,_,rfl,SqL.of hl,r⟩⟩
 |od kvs=>cases e
 |oi kvs=>cases e
 |tx ps=>
  obtain⟨t,vs,rfl,ht,r⟩:=h
  cases e
  exact⟨_,rfl,.tup (SqT.of (hF _ _ ht)) (r.rp hF),fun z=>by cases z⟩
 |al i=>cases e
 |br d'=>
  obtain⟨rfl,v,rfl,r⟩:=h
  cases e
  exact⟨v,rfl,r,fun z=>by cases z⟩
theorem FrF.slen(h:FrF K B F A σ H E xs Xs):σ.length=E.length:=by
 have e:=h.sl.len
 have:=h.len
 simp only[List.length_append,dv]at e
 omega
theorem FrF.var{i:Nat}(h:FrF K B F A σ H E xs Xs)(e:E[i]? =some s):∃o A1,σ[i]? =some o∧SlOk K F H σ o s A1:=by
 obtain⟨o,A0,A1,A2,eA,eo,hp,_⟩:=h.sl.at (k:=Xs.length+i) (s:=s) (by rw[Zb (by omega)];simpa using e)
 rw[Zb (by rw[dv,h.len];omega),dv,h.len,ug]at eo
 exact⟨o,A1,eo,hp⟩
theorem FrF.ext{k:Nat}(h:FrF K B F A σ H E xs Xs)(e:Xs[k]? =some s):∃v A1,xs[k]? =some v∧SlOk K F H σ (some v) s A1:=by
 have hk:k < Xs.length:=(List.getElem?_eq_some_iff.mp e).1
 obtain⟨o,A0,A1,A2,eA,eo,hp,_⟩:=h.sl.at (k:=k) (s:=s) (by rw[List.getElem?_append_left hk];exact e)
 rw[List.getElem?_append_left (by rw[dv,h.len];omega),qT]at eo
 cases q:xs[k]? with
 |none=>rw[q]at eo;cases eo
 |some v=>rw[q]at eo;cases eo;exact⟨v,A1,rfl,hp⟩
theorem FrF.look{k:Nat}(h:FrF K B F A σ H E xs Xs)(e:Xs[k]? =some s)(q:look E s=some d):∃v,xs[k]? =some v∧Rp K H v d∧(gR E s=false→RpF K F H v d):=by
 obtain⟨v,A1,ev,hs⟩:=h.ext e
 cases s with
 |al i=>
  obtain⟨rfl,w,ew,hw⟩:=hs
  cases ew
  cases ei:E[i]? with
  |none=>simp[PL.look,ei]at q
  |some t=>
   obtain⟨o,A2,eo,ht⟩:=h.var ei
   rw[hw]at eo
   cases eo
   obtain⟨v',e',r,c⟩:=ht.val h.fh (d:=d) (by simpa[PL.look,ei]using q)
   cases e'
   exact⟨v,ev,r,fun z=>c (by simpa[gR,ei]using z)⟩
 |no=>cases q
 |od kvs=>cases q
 |oi kvs=>cases q
 |sh d'=>obtain⟨v',e',r,c⟩:=hs.val h.fh q;cases e';exact⟨v,ev,r,c⟩
 |ow ds=>obtain⟨v',e',r,c⟩:=hs.val h.fh q;cases e';exact⟨v,ev,r,c⟩
 |tx ps=>obtain⟨v',e',r,c⟩:=hs.val h.fh q;cases e';exact⟨v,ev,r,c⟩
 |br d'=>obtain⟨v',e',r,c⟩:=hs.val h.fh q;cases e';exact⟨v,ev,r,c⟩
theorem FrF.look0(h:FrF K B F A σ H E (v::xs) (s::Xs))(q:PL.look E s=some d):Rp K H v d∧(gR E s=false→RpF K F H v d):=by
 obtain⟨v',e,r⟩:=h.look (k:=0) rfl q
 cases e
 exact r
theorem FrF.look1{w:V}{t:Sl}(h:FrF K B F A σ H E (w::v::xs) (t::s::Xs))(q:PL.look E s=some d):Rp K H v d∧(gR E s=false→RpF K F H v d):=by
 obtain⟨v',e,r⟩:=h.look (k:=1) rfl q
 cases e
 exact r
theorem FrF.mutA(h:FrF K B F A σ H E xs Xs):∀a∈A,(∃us,H a=some (.lst us))∨∃us,H a=some (.dK us):=
 SAll.all (R:=fun a=>(∃us,H a=some (.lst us))∨∃us,H a=some (.dK us)) (fun _ _ _ q=>q.mut) h.sl
theorem FrF.newA{p:Addr}(h:FrF K B F A σ H E xs Xs)(hp:H p=none):p∉A:=fun hm=>by
 rcases h.mutA p hm with⟨_,z⟩ |⟨_,z⟩ <;> rw[hp]at z <;> cases z
theorem FrF.cold{u:V}{e:PyData}(h:FrF K B F A σ H E xs Xs)(r:Rp K H u e)(f:cE e=true):Rp K F u e:=(r.cold f).same h.tf
theorem FrF.coldA{us:List V}{es:List PyData}(h:FrF K B F A σ H E xs Xs)(r:RpA K H us es)(f:bx es=true):RpA K F us es:=(r.cold f).same h.tf
theorem FrF.push(h:FrF K B F A σ H E xs Xs)(q:SlOk K F H σ (some v) s []):FrF K B F A σ H E (v::xs) (s::Xs):=
 ⟨h.bf,h.fh,h.tf,.cons (A:=[]) q h.sl,h.nd,h.fr,by simp[h.len],h.pl⟩
theorem FrF.pop(h:FrF K B F A σ H E (v::xs) (s::Xs)):∃A',FrF K B F A' σ H E xs Xs:=by
 obtain⟨bf,fh,tf,sl,nd,fr,len,pl⟩:=h
 generalize hT:List.map some (v::xs)++σ=T at sl
 generalize hS:(s::Xs)++E=S at sl
 cases sl with
 |nil=>cases hS
 |cons q r=>
  injection hT with _ hT
  injection hS with _ hS
  subst hT hS
  exact⟨_,bf,fh,tf,r,(Zba.mp nd).2.1,fun a ha=>fr a (iD _ ha),by simpa using len,pl⟩
theorem FrF.grow{H':Hp}(h:FrF K B F A σ H E xs Xs)(g:Same H H'):FrF K B (fun b=>if b∈A then none else H' b) A σ H' E xs Xs:=by
 have nF:∀b o,F b=some o→b∉A:=fun b o e hb=>by rw[h.fr b hb]at e;cases e
 have FF:Same F (fun b=>if b∈A then none else H' b):=fun b o e=>by
  show(if b∈A then none else H' b)=some o
  rw[if_neg (nF b o e)]
  exact g _ _ (h.fh _ _ e)
 have hA:∀b∈A,H' b=H b:=fun b hb=>by
  rcases h.mutA b hb with⟨_,z⟩ |⟨_,z⟩ <;> rw[z,g _ _ z]
 refine⟨h.bf.trans FF,fun b o e=>?_,fun b o e=>?_,h.sl.mono fun o s C _ hC q=>q.stay FF (fun b hb=>hA b (hC b hb)) fun _=>g,h.nd,fun a ha=>if_pos ha,h.len,h.pl⟩
 ·by_cases hb:b∈A
  ·rw[if_pos hb]at e;cases e
  ·rw[if_neg hb]at e;exact e
 ·obtain⟨e1,e2⟩:=Option.filter_eq_some_iff.mp e
  show(if b∈A then none else H' b)=some o
  by_cases hb:b∈A
  ·rw[hA b hb]at e1
   rcases h.mutA b hb with⟨_,z⟩ |⟨_,z⟩ <;> rw[z]at e1 <;> cases e1 <;> cases e2
  ·rw[if_neg hb];exact e1
theorem FrF.newl{p:Addr}{vs:List V}{ds:List PyData}(h:FrF K B F A σ H E xs Xs)(r:RpA K F vs ds)(hp:H p=none):FrF K B F (p::A) σ (upd H p (.lst vs)) E (.ref p::xs) (.ow ds::Xs):=by
 have g:Same H (upd H p (.lst vs)):=fE hp _
 have nA:=h.newA hp
 refine⟨h.bf,h.fh.trans g,fun b o e=>?_,.cons (A:=[p]) ⟨p,vs,rfl,rfl,bF,r⟩ (h.sl.mono fun o s C _ hC q=>q.stay (Same.refl _) (fun b hb=>aD fun z=>nA (z▸hC b hb)) fun _=>g),List.nodup_cons.mpr ⟨nA,h.nd⟩,fun a ha=>?_,by simp[h.len],h.pl⟩
 ·obtain⟨e1,e2⟩:=Option.filter_eq_some_iff.mp e
  by_cases hb:b=p
  ·subst hb;rw[bF]at e1;cases e1;cases e2
  ·rw[aD hb]at e1;exact h.tf b o (iI e1 e2)
 ·rcases Zap.mp ha with z |z
  ·subst z;exact h.fh.free hp
  ·exact h.fr a z
theorem FrF.newt{p:Addr}{vs:List V}{ds:List PyData}(h:FrF K B F A σ H E xs Xs)(r:RpA K F vs ds)(hp:H p=none):FrF K B (upd F p (.tup vs)) A σ (upd H p (.tup vs)) E (.ref p::xs) (.sh (.tuple ds)::Xs):=by
 have g:Same H (upd H p (.tup vs)):=fE hp _
 have nA:=h.newA hp
 have gF:Same F (upd F p (.tup vs)):=fE (h.fh.free hp) _
 refine⟨h.bf.trans gF,fun b o e=>?_,fun b o e=>?_,.cons (A:=[]) ⟨rfl,_,rfl,.tup (.inl (.inl bF)) (r.same gF)⟩ (h.sl.mono fun o s C _ hC q=>q.stay gF (fun b hb=>aD fun z=>nA (z▸hC b hb)) fun _=>g),h.nd,fun a ha=>?_,by simp[h.len],h.pl⟩
 ·by_cases hb:b=p
  ·subst hb;rw[bF]at e ⊢;exact e
  ·rw[aD hb]at e ⊢;exact h.fh _ _ e
 ·obtain⟨e1,e2⟩:=Option.filter_eq_some_iff.mp e
  by_cases hb:b=p
  ·subst hb;rw[bF]at e1 ⊢;exact e1
  ·rw[aD hb]at e1 ⊢;exact h.tf b o (iI e1 e2)
 ·have ne:a≠p:=fun z=>nA (z▸ha)
  rw[aD ne];exact h.fr a ha
theorem FrF.mut{i:Nat}{ds:List PyData}(h:FrF K B F A σ H E xs Xs)(e:E[i]? =some (.ow ds))(c:∀s∈Xs,s.isBr=false):
  ∃l vs,σ[i]? =some (some (.ref l))∧H l=some (.lst vs)∧RpA K F vs ds∧∀vs' ds',RpA K F vs' ds'→FrF K B F A σ (upd H l (.lst vs')) (E.set i (.ow ds')) xs Xs:=by
 obtain⟨o,A0,A1,A2,eA,eo,hp,put⟩:=h.sl.at (k:=Xs.length+i) (s:=.ow ds) (by rw[Zb (by omega)];simpa using e)
 rw[Zb (by rw[dv,h.len];omega),dv,h.len,ug]at eo
 obtain⟨l,vs,rfl,rfl,hl,r⟩:=hp
 refine⟨l,vs,eo,hl,r,fun vs' ds' r'=>?_⟩
 have hlA:l∈A:=by rw[eA];simp
 have nl:∀b,b∈A0∨b∈A2→b≠l:=fun b hb z=>by
  subst z
  have nd:=h.nd
  rw[eA]at nd
  rcases hb with hb |hb
  ·exact(Zba.mp nd).2.2 b hb b (by simp) rfl
  ·exact(Zba.mp (Zba.mp nd).2.1).2.2 b (by simp) b hb rfl
 have lF:F l=none:=h.fr l hlA
 have z:=put (SlOk K F (upd H l (.lst vs')) σ) (some (.ref l)) (.ow ds') [l] ⟨l,vs',rfl,rfl,bF,r'⟩ fun o s C hs hC q=>q.stay (Same.refl _) (fun b hb=>aD (nl b (hC b hb))) fun z=>by
  rcases Zao.mp hs with hs |hs
  ·rw[c s hs]at z;cases z
  ·have:=h.pl s hs
   cases s <;> simp[Sl.isAl,Sl.isBr]at this z
 have e3:(Xs++E).set (Xs.length+i) (.ow ds')=Xs++E.set i (.ow ds'):=by
  rw[List.set_append_right _ _ (by omega),ug]
 have e2:(List.map some xs++σ).set (Xs.length+i) (some (V.ref l))=List.map some xs++σ:=by
  rw[←h.len,List.set_append_right _ _ (by rw[dv];omega),dv,ug]
  congr 1
  exact List.ext_getElem? fun j=>by
   by_cases hj:i=j
   ·subst hj
    rw[List.getElem?_set_self',eo];rfl
   ·rw[List.getElem?_set_ne hj]
 rw[e2,e3,←eA]at z
 refine⟨h.bf,fun b o q=>?_,?_,z,h.nd,h.fr,h.len,fun s hs=>?_⟩
 ·rw[aD (fun z=>by rw[z,lF]at q;cases q)]
  exact h.fh _ _ q
 ·rw[ou hl];exact h.tf
 ·rcases List.mem_or_eq_of_mem_set hs with hs |hs
  ·exact h.pl s hs
  ·subst hs;rfl
theorem FrF.frzAt{k:Nat}(h:FrF K B F A σ H E xs Xs)(e:(Xs++E)[k]? =some s)(q:s.val=some d)(c:s.isAl=false):
  ∃F' A' v,(xs.map some++σ)[k]? =some (some v)∧Rp K F' v d∧Same B F'∧Same F' H∧Same (tups H) F'∧SAll (SlOk K F' H σ) (xs.map some++σ) ((Xs++E).set k (.sh d)) A'∧A'.Nodup∧∀a∈A',F' a=none:=by
 obtain⟨o,A0,A1,A2,eA,eo,hp,put⟩:=h.sl.at e
 have nd:=h.nd
 rw[eA]at nd
 have nA1:∀b o,F b=some o→b∉A1:=fun b o e hb=>by
  have:=h.fr b (by rw[eA];simp[hb])
  rw[this]at e;cases e
 have FF:Same F (over F H A1):=fun b o e=>by rw[kn (nA1 b o e)];exact e
 obtain⟨v,rfl,r⟩:∃v,o=some v∧Rp K (over F H A1) v d:=by
  cases s with
  |no=>cases q
  |od kvs=>cases q
  |oi kvs=>cases q
  |al i=>cases c
  |br d'=>cases c
  |sh d'=>
   obtain⟨rfl,v,rfl,r⟩:=hp
   cases q
   exact⟨v,rfl,r.same FF⟩
  |ow ds=>
   obtain⟨l,vs,rfl,rfl,hl,r⟩:=hp
   cases q
   exact⟨_,rfl,.lst (SqL.of ((m6 (by simp)).trans hl)) (r.same FF)⟩
  |tx ps=>
   obtain⟨t,vs,rfl,ht,r⟩:=hp
   cases q
   refine⟨_,rfl,.tup (SqT.of (FF _ _ ht)) ?_⟩
   have r':PtsOk K (over F H A1) (over F H A1) vs ps A1:=r.stay FF fun b hb=>m6 hb
   exact r'.rp (Same.refl _)
 have e2:(List.map some xs++σ).set k (some v)=List.map some xs++σ:=List.ext_getElem? fun j=>by
  by_cases hj:k=j
  ·subst hj
   rw[List.getElem?_set_self',eo];rfl
  ·rw[List.getElem?_set_ne hj]
 have z:=put (SlOk K (over F H A1) H σ) (some v) (.sh d) [] ⟨rfl,v,rfl,r⟩ fun o s C _ hC q=>q.stay FF (fun b _=>rfl) fun _=>Same.refl _
 rw[e2]at z
 refine⟨over F H A1,A0++A2,v,eo,r,h.bf.trans FF,fun b o e=>?_,fun b o e=>FF _ _ (h.tf _ _ e),by simpa using z,?_,fun a ha=>?_⟩
 ·by_cases hb:b∈A1
  ·rw[m6 hb]at e;exact e
  ·rw[kn hb]at e;exact h.fh _ _ e
 ·exact List.Nodup.sublist (List.Sublist.append (List.Sublist.refl _) (List.sublist_append_right _ _)) nd
 ·have hn:a∉A1:=fun hm=>by
   rcases Zao.mp ha with z |z
   ·exact(Zba.mp nd).2.2 a z a (by simp[hm]) rfl
   ·exact(Zba.mp (Zba.mp nd).2.1).2.2 a hm a z rfl
  rw[kn hn]
  exact h.fr a (by rw[eA];rcases Zao.mp ha with z |z <;> simp[z])
end
def frz(E:List Sl):Sl→Option (PyData×List Sl)
 |.sh d=>some (d,E)
 |.ow ds=>some (.list ds,E)
 |.tx ps=>some (.tuple (ps.map Pt.val),E)
 |.br d=>if cE d then some (d,E)else none
 |.al i=>match E[i]? with
  |some (.sh d)=>some (d,E)
  |some (.ow ds)=>some (.list ds,E.set i (.sh (.list ds)))
  |some (.tx ps)=>some (.tuple (ps.map Pt.val),E.set i (.sh (.tuple (ps.map Pt.val))))
  |_=>none
 |_=>none
section
variable {K:Frag} {B F:Hp} {A:List Addr} {σ:Sg} {H:Hp} {E E':List Sl} {xs:List V} {Xs:List Sl} {v:V} {s:Sl} {d:PyData}
theorem FrF.frzVar{i:Nat}(h:FrF K B F A σ H E xs Xs)(e:E[i]? =some s)(q:s.val=some d):∃F' A' v,σ[i]? =some (some v)∧Rp K F' v d∧FrF K B F' A' σ H (E.set i (.sh d)) xs Xs:=by
 obtain⟨F',A',v,ev,r,b1,b2,b3,sl,nd,fr⟩:=h.frzAt (k:=Xs.length+i) (by rw[Zb (by omega)];simpa using e) q (h.pl s (List.mem_of_getElem? e))
 rw[Zb (by rw[dv,h.len];omega),dv,h.len,ug]at ev
 have e3:(Xs++E).set (Xs.length+i) (.sh d)=Xs++E.set i (.sh d):=by
  rw[List.set_append_right _ _ (by omega),ug]
 rw[e3]at sl
 refine⟨F',A',v,ev,r,b1,b2,b3,sl,nd,fr,h.len,fun s hs=>?_⟩
 rcases List.mem_or_eq_of_mem_set hs with hs |hs
 ·exact h.pl s hs
 ·subst hs;rfl
theorem FrF.frz0(h:FrF K B F A σ H E (v::xs) (s::Xs))(q:PL.frz E s=some (d,E')):∃F' A',FrF K B F' A' σ H E' (v::xs) (.sh d::Xs):=by
 have key:s.val=some d→s.isAl=false→E=E'→∃F' A',FrF K B F' A' σ H E' (v::xs) (.sh d::Xs):=fun q' c e=>by
  subst e
  obtain⟨F',A',v',ev,r,b1,b2,b3,sl,nd,fr⟩:=h.frzAt (k:=0) rfl q' c
  exact⟨F',A',b1,b2,b3,sl,nd,fr,by simpa using h.len,h.pl⟩
 have al:∀i t,s=.al i→E[i]? =some t→t.val=some d→E'=E.set i (.sh d)→∃F' A',FrF K B F' A' σ H E' (v::xs) (.sh d::Xs):=fun i t es ei qt eE=>by
  subst es eE
  obtain⟨v',A1,ev,hs⟩:=h.ext (k:=0) rfl
  cases ev
  obtain⟨rfl,w,ew,hw⟩:=hs
  cases ew
  obtain⟨F',A',w,ew,r,h'⟩:=h.frzVar ei qt
  rw[hw]at ew
  cases ew
  obtain⟨A2,h2⟩:=h'.pop
  exact⟨F',A2,h2.push ⟨rfl,_,rfl,r⟩⟩
 cases s with
 |no=>cases q
 |od kvs=>cases q
 |oi kvs=>cases q
 |sh d'=>cases q;exact key rfl rfl rfl
 |ow ds=>cases q;exact key rfl rfl rfl
 |tx ps=>cases q;exact key rfl rfl rfl
 |br d'=>
  simp only[PL.frz]at q
  split at q
  ·rename_i hf
   cases q
   obtain⟨r,_⟩:=h.look0 (d:=d) rfl
   obtain⟨A2,h2⟩:=h.pop
   exact⟨F,A2,h2.push ⟨rfl,_,rfl,h.cold r hf⟩⟩
  ·cases q
 |al i=>
  simp only[PL.frz]at q
  split at q
  ·rename_i d' ei
   cases q
   refine al i _ rfl ei rfl ?_
   exact List.ext_getElem? fun j=>by
    by_cases hj:i=j
    ·subst hj;rw[List.getElem?_set_self',ei];rfl
    ·rw[List.getElem?_set_ne hj]
  ·rename_i ds ei
   cases q
   exact al i _ rfl ei rfl rfl
  ·rename_i ps ei
   cases q
   exact al i _ rfl ei rfl rfl
  ·cases q
theorem FrF.store{i:Nat}(h:FrF K B F A σ H E (v::xs) (s::Xs))(c:s.isAl=false)(cx:∀s∈Xs,s.isAl=false)(hi:i < E.length):∃A',FrF K B F A' (σ.set i (some v)) H (E.set i s) xs Xs:=by
 have hlen:=h.len
 have hsl:=h.slen
 obtain⟨bf,fh,tf,sl,nd,fr,len,pl⟩:=h
 generalize hT:List.map some (v::xs)++σ=T at sl
 generalize hS:(s::Xs)++E=S at sl
 cases sl with
 |nil=>cases hS
 |cons q r=>
  rename_i A1 _ _ A2
  injection hT with h1 hT
  injection hS with h2 hS
  subst h1 h2 hT hS
  have len':xs.length=Xs.length:=by simpa using len
  have r:SAll (SlOk K F H σ) (List.map some xs++σ) (Xs++E) A2:=r
  obtain⟨t,et⟩:∃t,E[i]? =some t:=⟨E[i],pS hi⟩
  obtain⟨o,C0,C1,C2,eA,eo,hp,put⟩:=r.at (k:=Xs.length+i) (s:=t) (by rw[Zb (by omega)];simpa using et)
  have all:∀s'∈Xs++E,s'.isAl=false:=fun s' hs=>(Zao.mp hs).elim (cx s') (pl s')
  have chg:∀(o:Option V) (s':Sl) (C:List Addr),s'.isAl=false→SlOk K F H σ o s' C→SlOk K F H (σ.set i (some v)) o s' C:=fun o s' C hc z=>by
   cases s' <;> first |exact z |cases hc
  have z:=put (SlOk K F H (σ.set i (some v))) (some v) s A1 (chg _ _ _ c q) fun o s' C hs _ z=>chg o s' C (all s' hs) z
  have e3:(Xs++E).set (Xs.length+i) s=Xs++E.set i s:=by
   rw[List.set_append_right _ _ (by omega),ug]
  have e2:(List.map some xs++σ).set (Xs.length+i) (some v)=List.map some xs++σ.set i (some v):=by
   rw[←len',List.set_append_right _ _ (by rw[dv];omega),dv,ug]
  rw[e2,e3]at z
  refine⟨_,bf,fh,tf,z,?_,fun a ha=>fr a ?_,len',fun s' hs=>?_⟩
  ·rw[eA]at nd
   have p:(C0++(A1++C2)).Perm (A1++(C0++C2)):=by
    rw[←lA,←lA]
    exact List.Perm.append_right _ List.perm_append_comm
   refine p.nodup_iff.mpr (List.Nodup.sublist ?_ nd)
   exact List.Sublist.append (List.Sublist.refl _) (List.Sublist.append (List.Sublist.refl _) (List.sublist_append_right _ _))
  ·rw[eA]
   simp only[Zao]at ha ⊢
   rcases ha with z |z |z
   ·exact .inr (.inl z)
   ·exact .inl z
   ·exact .inr (.inr (.inr z))
  ·rcases List.mem_or_eq_of_mem_set hs with hs |hs
   ·exact pl s' hs
   ·subst hs;exact c
end
end PL
namespace PL
open PySem L2 Nh
abbrev aO:=List Sl→Option (Sl×List Sl)
abbrev gh:=List Sl→Option (Bool×List Sl)
abbrev oz:=List Sl→Option (List Sl×List Sl)
abbrev iJ:=List Sl→Option (List PyData×List Sl)
inductive Fl where
 |nx |bk |ct |rt (r:Sl)
abbrev cR:=List Sl→Option (List Sl×Fl)
abbrev Calm(Xs:List Sl):Prop:=∀s∈Xs,s.isBr=false
abbrev Still(Xs:List Sl):Prop:=∀s∈Xs,s.isAl=false
theorem Still.calm{Xs:List Sl}(h:Still Xs):Calm Xs:=fun s hs=>by
 have:=h s hs
 cases s <;> simp[Sl.isAl,Sl.isBr]at this ⊢
theorem Still.nil{Xs:List Sl}(h:Xs=[]):Still Xs:=fun s hs=>by subst h;cases hs
theorem Calm.nil{Xs:List Sl}(h:Xs=[]):Calm Xs:=(Still.nil h).calm
theorem Calm.cons{Xs:List Sl}{s:Sl}(h:Calm Xs)(hs:s.isBr=false):Calm (s::Xs):=fun t ht=>(Zap.mp ht).elim (fun e=>e▸hs) (h t)
def rd(K:Frag)(m:Bool)(f:aO):TE:=fun σ H Q=>∃B E xs Xs r E',Frm K B σ H E xs Xs∧(m=true→Calm Xs)∧f E=some (r,E')∧∀v H',Frm K B σ H' E' (v::xs) (r::Xs)→Q v H'
def rt(K:Frag)(m:Bool)(f:gh):TT:=fun σ H Q=>∃B E xs Xs b E',Frm K B σ H E xs Xs∧(m=true→Calm Xs)∧f E=some (b,E')∧∀H',Frm K B σ H' E' xs Xs→Q b H'
def ra(K:Frag)(m:Bool)(f:oz):TA:=fun σ H Q=>∃B E xs Xs rs E',Frm K B σ H E xs Xs∧(m=true→Calm Xs)∧f E=some (rs,E')∧∀vs H',vs.length=rs.length→Frm K B σ H' E' (vs.reverse++xs) (rs.reverse++Xs)→Q vs H'
def CU(K:Frag)(m:Bool)(f:iJ):TA:=fun σ H Q=>∃B E xs Xs ds E',Frm K B σ H E xs Xs∧(m=true→Calm Xs)∧f E=some (ds,E')∧∀vs H',vs.length=ds.length→Frm K B σ H' E' (vs.reverse++xs) (ds.reverse.map .sh++Xs)→Q vs H'
def rs(K:Frag)(g:cR):TS:=fun D σ H=>∃B E xs Xs E' fl,Frm K B σ H E xs Xs∧Xs=[]∧g E=some (E',fl)∧match fl with
 |.nx=>∀σ' H',Frm K B σ' H' E' xs Xs→D.nx σ' H'
 |.bk=>∀σ' H',Frm K B σ' H' E' xs Xs→D.bk σ' H'
 |.ct=>∀σ' H',Frm K B σ' H' E' xs Xs→D.ct σ' H'
 |.rt r=>∀σ' v H',Frm K B σ' H' E' (v::xs) (r::Xs)→D.rt v H'
def EX(X:Cx)(e:Expr)(m:Bool)(f:aO):Prop:=PE X e (rd X.K m f)
def TX(X:Cx)(e:Expr)(m:Bool)(f:gh):Prop:=PT X e (rt X.K m f)
def WX(X:Cx)(e:Expr)(m:Bool)(f:gh):Prop:=PW X e (rt X.K m f)
def AX(X:Cx)(es:List Expr)(m:Bool)(f:oz):Prop:=PA X es (ra X.K m f)
def DX(X:Cx)(es:List Expr)(m:Bool)(f:iJ):Prop:=PA X es (CU X.K m f)
def SX(X:Cx)(s:Stmt)(g:cR):Prop:=PS X s (rs X.K g)
def rh(X:Cx)(s:List Stmt)(g:cR):Prop:=PSs X s (rs X.K g)
section
variable {X:Cx}
theorem bv{e:Expr}{t t':TE}(h:PE X e t)(k:∀σ H Q,t' σ H Q→t σ H Q):PE X e t':=fun pins s σ H Q I q=>h pins s σ H Q I (k σ H Q q)
theorem m7{e:Expr}{t t':TT}(h:PT X e t)(k:∀σ H Q,t' σ H Q→t σ H Q):PT X e t':=fun pins s σ H Q I q=>h pins s σ H Q I (k σ H Q q)
theorem uF{e:Expr}{t t':TT}(h:PW X e t)(k:∀σ H Q,t' σ H Q→t σ H Q):PW X e t':=fun whole pins s σ H Q I q=>h whole pins s σ H Q I (k σ H Q q)
theorem m8{es:List Expr}{t t':TA}(h:PA X es t)(k:∀σ H Q,t' σ H Q→t σ H Q):PA X es t':=fun pos pins s σ H Q I q=>h pos pins s σ H Q I (k σ H Q q)
theorem hJ{st:Stmt}{t t':TS}(h:PS X st t)(k:∀D σ H,t' D σ H→t D σ H):PS X st t':=fun pins s σ H D I q=>h pins s σ H D I (k D σ H q)
theorem rj{st:List Stmt}{t t':TS}(h:PSs X st t)(k:∀D σ H,t' D σ H→t D σ H):PSs X st t':=fun pins s σ H D I q=>h pins s σ H D I (k D σ H q)
end
def yt:PyData→Option V
 |.none=>some .non
 |.bool b=>some (.bl b)
 |.int i=>some (.int i)
 |.str x=>some (.str x)
 |_=>none
theorem ko{K:Frag}{H:Hp}{d:PyData}{v:V}(h:yt d=some v):Rp K H v d:=by
 cases d <;> simp[yt]at h <;> subst h <;> constructor
def aa(i:Nat):aO:=fun E=>match E[i]? with
 |some (.sh d)=>some (.sh d,E)
 |some (.ow _)=>some (.al i,E)
 |some (.od _)=>some (.al i,E)
 |some (.tx _)=>some (.al i,E)
 |_=>none
def pC(d:PyData):aO:=fun E=>some (.sh d,E)
section
variable {X:Cx} {K:Frag}
theorem ad (i:Nat) {x:Str} {pos:Pos} (hN:X.N[i]? =some x:=by rfl) (hv:wu X.env.scope x:=by first |exact Or.inl rfl |exact Or.inr (Or.inl rfl) |exact Or.inr (Or.inr rfl)) (hd:(x == ("__debug__":Str))=false:=by decide)
  (hcd:(x == ("__classdict__":Str))=false:=by decide):EX X (.Name x pos) false (aa i):=by
 refine bv (pX hN hv hd hcd) fun σ H Q h=>?_
 obtain⟨B,E,xs,Xs,r,E',⟨F,A,fr⟩,_,e,q⟩:=h
 unfold aa at e
 split at e
 ·rename_i d ei
  cases e
  obtain⟨o,A1,eo,rfl,v,rfl,rp⟩:=fr.var ei
  exact⟨v,eo,q v H ⟨F,A,fr.push ⟨rfl,v,rfl,rp⟩⟩⟩
 ·rename_i ds ei
  cases e
  obtain⟨o,A1,eo,l,vs,rfl,_⟩:=fr.var ei
  exact⟨_,eo,q _ H ⟨F,A,fr.push ⟨rfl,_,rfl,eo⟩⟩⟩
 ·rename_i ds ei
  cases e
  obtain⟨o,A1,eo,l,vs,A2,rfl,_⟩:=fr.var ei
  exact⟨_,eo,q _ H ⟨F,A,fr.push ⟨rfl,_,rfl,eo⟩⟩⟩
 ·rename_i ds ei
  cases e
  obtain⟨o,A1,eo,l,vs,rfl,_⟩:=fr.var ei
  exact⟨_,eo,q _ H ⟨F,A,fr.push ⟨rfl,_,rfl,eo⟩⟩⟩
 ·cases e
theorem zz{e:Expr}{v:V}(d:PyData)(h:PE X e (tC v))(hd:yt d=some v:=by rfl):EX X e false (pC d):=by
 refine bv h fun σ H Q h=>?_
 obtain⟨B,E,xs,Xs,r,E',⟨F,A,fr⟩,_,e,q⟩:=h
 cases e
 exact q v H ⟨F,A,fr.push ⟨rfl,v,rfl,ko hd⟩⟩
theorem ak{i j pos}:EX X (.Constant (.int i) j pos) false (pC (.int i)):=zz _ yS
theorem iK{b j pos}:EX X (.Constant (.bool b) j pos) false (pC (.bool b)):=zz _ AL
theorem kq{x j pos}:EX X (.Constant (.str x) j pos) false (pC (.str x)):=zz _ uk
end
abbrev P2:=List Sl→Sl→Sl→Option (Sl×List Sl)
def gk(K:Frag)(r:R2)(p:P2):Prop:=∀{B F:Hp} {A:List Addr} {σ:Sg} {H:Hp} {E:List Sl} {xs:List V} {Xs:List Sl} {v1 v2:V} {s1 s2 res:Sl} {E':List Sl} {Q:VK},
 FrF K B F A σ H E (v2::v1::xs) (s2::s1::Xs)→p E s1 s2=some (res,E')→(∀v H',Frm K B σ H' E' (v::xs) (res::Xs)→Q v H')→r v1 v2 H Q
def af(p:P2)(m2:Bool)(f g:aO):aO:=fun E=>(f E).bind fun a=>if m2&&a.1.isBr then none else (g a.2).bind fun b=>p b.2 a.1 b.1
theorem m9{K:Frag}{r:R2}{p:P2}(hp:gk K r p){m1 m2:Bool}{f g:aO}{σ:Sg}{H:Hp}{Q:VK}(h:rd K (m1||m2) (af p m2 f g) σ H Q):AV r (rd K m1 f) (rd K m2 g) σ H Q:=by
 obtain⟨B,E,xs,Xs,res,E',fr,c,e,q⟩:=h
 obtain⟨⟨s1,E1⟩,e1,e⟩:=Za.mp e
 by_cases hb:(m2&&s1.isBr)=true
 ·rw[if_pos hb]at e;cases e
 rw[if_neg hb]at e
 obtain⟨⟨s2,E2⟩,e2,e⟩:=Za.mp e
 refine⟨B,E,xs,Xs,s1,E1,fr,fun z=>c (by simp[z]),e1,fun v1 H1 fr1=>?_⟩
 refine⟨B,E1,v1::xs,s1::Xs,s2,E2,fr1,fun z=>?_,e2,fun v2 H2 fr2=>?_⟩
 ·refine Calm.cons (c (by simp[z])) ?_
  cases hs:s1.isBr with
  |false=>rfl
  |true=>exact absurd (by simp[z,hs]) hb
 ·obtain⟨F,A,fr2⟩:=fr2
  exact hp fr2 e q
def fF(op:PyData→PyData→Option PyData):P2:=fun E s1 s2=>(look E s1).bind fun d1=>(look E s2).bind fun d2=>(op d1 d2).map fun d=>(.sh d,E)
theorem FrF.res2{K:Frag}{B F:Hp}{A:List Addr}{σ:Sg}{H:Hp}{E:List Sl}{xs:List V}{Xs:List Sl}{v1 v2 v:V}{s1 s2 s:Sl}(h:FrF K B F A σ H E (v2::v1::xs) (s2::s1::Xs))(q:SlOk K F H σ (some v) s []):Frm K B σ H E (v::xs) (s::Xs):=by
 obtain⟨A1,h⟩:=h.pop
 obtain⟨A2,h⟩:=h.pop
 exact⟨F,A2,h.push q⟩
theorem jd{K:Frag}{r:R2}{op:PyData→PyData→Option PyData}(h:∀(d1 d2 d:PyData) (v1 v2:V) (H:Hp) (Q:VK),op d1 d2=some d→Rp K H v1 d1→Rp K H v2 d2→∃v,yt d=some v∧(Q v H→r v1 v2 H Q)):gk K r (fF op):=by
 intro B F A σ H E xs Xs v1 v2 s1 s2 res E' Q fr e q
 obtain⟨d1,e1,e⟩:=Za.mp e
 obtain⟨d2,e2,e⟩:=Za.mp e
 obtain⟨d,e3,e⟩:=Zab.mp e
 cases e
 obtain⟨v,hv,k⟩:=h d1 d2 d v1 v2 H Q e3 (fr.look1 e1).1 (fr.look0 e2).1
 exact k (q v H (fr.res2 ⟨rfl,v,rfl,ko hv⟩))
section
variable {X:Cx} {a b:Expr} {m1 m2:Bool} {f g:aO} {pos:Pos}
theorem jI{op:Operator}{r:R2}{p:P2}(ho:OpR X (binaryOp op) r)(hp:gk X.K r p)(ha:EX X a m1 f)(hb:EX X b m2 g):EX X (.BinOp a op b pos) (m1||m2) (af p m2 f g):=bv (AW ho ha hb) fun _ _ _ h=>m9 hp h
theorem uG{op:CmpOp}{r:R2}{p:P2}(ho:OpR X (compareOp op) r)(hp:gk X.K r p)(ha:EX X a m1 f)(hb:EX X b m2 g)(hm:behindInMarks op b=false):EX X (.Compare a [op] [b] pos) (m1||m2) (af p m2 f g):=bv (wC ho ha hb hm) fun _ _ _ h=>m9 hp h
def eL(f:aO):gh:=fun E=>(f E).bind fun a=>match a.1 with
 |.sh (.bool b)=>some (b,a.2)
 |_=>none
theorem qd{K:Frag}{m:Bool}{f:aO}{σ:Sg}{H:Hp}{Q:Bool→Hp→Prop}(h:rt K m (eL f) σ H Q):rd K m f σ H (fun x H'=>∃k,x=.bl k∧Q k H'):=by
 obtain⟨B,E,xs,Xs,b,E',fr,c,e,q⟩:=h
 obtain⟨⟨s,E1⟩,e1,e⟩:=Za.mp e
 refine⟨B,E,xs,Xs,s,E1,fr,c,e1,fun v H' ⟨F,A,fr'⟩=>?_⟩
 simp only at e
 split at e
 ·cases e
  obtain⟨r,_⟩:=fr'.look0 (d:=.bool b) rfl
  cases r
  obtain⟨A',fr2⟩:=fr'.pop
  exact⟨b,rfl,q H' ⟨F,A',fr2⟩⟩
 ·cases e
theorem m_{op:CmpOp}{r:R2}{p:P2}(ho:OpR X (compareOp op) r)(hp:gk X.K r p)(ha:EX X a m1 f)(hb:EX X b m2 g)(hm:behindInMarks op b=false):TX X (.Compare a [op] [b] pos) (m1||m2) (eL (af p m2 f g)):=by
 refine m7 (wD ho ha hb hm) fun σ H Q h=>?_
 exact m9 hp (qd h)
end
def zB:Int:=2 ^ 20000
def fj(i j:Int):Bool:=decide (-(2 ^ 64) < i∧i < 2 ^ 64)||decide (-(2 ^ 64) < j∧j < 2 ^ 64)||decide (-zB < i∧i < zB∧ -zB < j∧j < zB)
def gV(j:Int):Bool:=decide (0 < j∧j < 2 ^ 200)
def oA(C:Int→Int→Bool)(g:Int→Int→PyData):PyData→PyData→Option PyData
 |.int i,.int j=>if C i j then some (g i j)else none
 |_,_=>none
abbrev yu(C:Int→Int→Bool)(g:Int→Int→V):R2:=rI (fun i j=>C i j=true) g
theorem je{K:Frag}{C:Int→Int→Bool}{g:Int→Int→PyData}{g':Int→Int→V}(hg:∀i j,yt (g i j)=some (g' i j)):gk K (yu C g') (fF (oA C g)):=by
 refine jd fun d1 d2 d v1 v2 H Q e r1 r2=>?_
 unfold oA at e
 split at e
 ·split at e
  ·cases e
   cases r1
   cases r2
   rename_i hC
   exact⟨_,hg _ _,fun q=>⟨_,_,rfl,rfl,hC,q⟩⟩
  ·cases e
 ·cases e
section
variable {X:Cx}
theorem jJ{i:Int}(h1: -zB < i)(h2:i < zB):Builtin.Int.intBits i≤2 ^ 20:=by
 unfold zB at h1 h2
 have h:i.natAbs < 2 ^ 20000:=by
  have e:((2 ^ 20000:Nat):Int)=2 ^ 20000:=Int.natCast_pow 2 20000
  generalize (2 ^ 20000:Int)=z at h1 h2 e
  generalize (2 ^ 20000:Nat)=y at e ⊢
  omega
 unfold Builtin.Int.intBits
 split
 ·exact Nat.zero_le _
 ·rename_i hz
  have hz':i≠0:=by simpa using hz
  have:i.natAbs.log2 < 20000:=(Nat.log2_lt (by omega)).mpr h
  omega
theorem uH{i j:Int}(h:fj i j=true):PySem.IntMulOk i j:=by
 unfold fj at h
 simp only[Bool.or_eq_true,decide_eq_true_eq]at h
 rcases h with(h |h) |h
 ·exact CMul.ok (.inl h)
 ·exact CMul.ok (.inr h)
 ·exact PySem.IntMulOk.of_bits (jJ h.1 h.2.1) (jJ h.2.2.1 h.2.2.2)
end
end PL
namespace PL
open PySem L2 Nh PyProof.Rows
abbrev i8:=L2.St
section
variable {X:Cx}
theorem OpR.or{f:Value→Value→Sem Value}{r r':R2}(h:OpR X f r)(h':OpR X f r'):OpR X f (fun x y H Q=>r x y H Q∨r' x y H Q):=by
 intro pins s σ H x y v u Q I rx ry q
 rcases q with q |q
 ·exact h pins s σ H x y v u Q I rx ry q
 ·exact h' pins s σ H x y v u Q I rx ry q
theorem OpR.imp{f:Value→Value→Sem Value}{r r':R2}(h:OpR X f r)(k:∀x y H Q,r' x y H Q→r x y H Q):OpR X f r':=fun pins s σ H x y v u Q I rx ry q=>h pins s σ H x y v u Q I rx ry (k _ _ _ _ q)
def yw(K:Frag):R2:=fun x y H Q=>∃l b xs zs,x=.ref l∧y=.ref b∧SqL K H l xs∧SqL K H b zs∧xs.length+zs.length≤sizeLine∧∀p,H p=none→Q (.ref p) (upd H p (.lst (xs++zs)))
theorem wU:OpR X (binaryOp .Add) (yw X.K):=by
 intro pins s σ H x y v u Q I rx ry h
 obtain⟨l,b,xs,zs,rfl,rfl,hH,hB,hz,q⟩:=h
 cases rx
 cases ry
 obtain⟨its,r,p1,z1⟩:=I.list hH
 obtain⟨its2,r2,p2,z2⟩:=I.list hB
 obtain⟨⟨cls,dd,data,sl⟩,ho,hc,n,hd⟩:=p1.isList
 obtain⟨⟨cls2,dd2,data2,sl2⟩,ho2,hc2,n2,yq⟩:=p2.isList
 simp only at hc hd hc2 yq
 subst hc hd hc2 yq
 have l1:=r.length
 have l2:=r2.length
 refine concat_meets ⟨_,ho,rfl⟩ ⟨_,ho2,rfl⟩ noFill_list_add seq_list_add PySem.F.slot_list_add PySem.F.entry_list_add (PySem.F.args_list_add_2 _ _) (list_addW l b its.toArray its2.toArray n n2 dd dd2 sl sl2 (by simp only[jE];omega)) ⟨ho,ho2,?_⟩
 have ea:its.toArray++its2.toArray=(its++its2).toArray:=by simp
 rw[ea]
 exact⟨.ref _,_,I.lnew (t':=s.toks) (r.append r2) (by rw[List.length_append];omega),rfl,q _ I.fresh⟩
def yx(K:Frag):R2:=fun x y H Q=>∃l k xs,x=.ref l∧y=.int k∧SqL K H l xs∧ -(2 ^ 63)≤k∧k < 2 ^ 63∧xs.length*k.toNat≤sizeLine∧
 ∀p,H p=none→Q (.ref p) (upd H p (.lst (List.replicate k.toNat xs).flatten))
theorem wV:OpR X (binaryOp .Mult) (yx X.K):=by
 intro pins s σ H x y v u Q I rx ry h
 obtain⟨l,k,xs,rfl,rfl,hH,h1,h2,hz,q⟩:=h
 cases rx
 obtain⟨t,rfl⟩:=ry
 obtain⟨its,r,p1,z1⟩:=I.list hH
 obtain⟨⟨cls,d,data,sl⟩,ho,hcl,n,hd⟩:=p1.isList
 simp only at hcl hd
 subst hcl hd
 have l1:=r.length
 have hsz:its.toArray.size*k.toNat≤2 ^ 24:=by rw[jE,←l1];exact hz
 refine wpAny_binaryOp_repeat_ref (T:="list") (U:="int") (by decide) ⟨_,ho,rfl⟩ (fun s'=>typeIs_int s' k t) noFill_list_mul F.fills_int_mul F.slot_int_rmul repeat_list F.slot_int_index.lookup
  (call_meets F.slot_int_rmul (typeIs_int s k t) F.entry_int_rmul (F.args_int_rmul_2 _ _) (lm_int_rmul_list_any k t l its.toArray n d sl)
   ⟨ho,rfl,⟨_,ho,rfl⟩,call_meets F.slot_list_mul ⟨_,ho,rfl⟩ F.entry_list_mul (F.args_list_mul_2 _ _)
    (lm_list_mul_any l its.toArray n d sl k t (by simp[Builtin.List.listFitsIndex];omega) (by omega) (by simp[Builtin.List.listTooLong,sizeLine];omega))
    ⟨ho,?_⟩⟩)
 rw[listMul_foldl_if]
 exact⟨.ref _,_,I.lnew (t':=s.toks) (r.rep k.toNat) (by rw[wR,Nat.mul_comm];exact hz),rfl,q _ I.fresh⟩
end
def dC:P2:=fun E s1 s2=>(look E s1).bind fun d1=>(look E s2).bind fun d2=>match d1,d2 with
 |.int i,.int j=>some (.sh (.int (i+j)),E)
 |.str a,.str b=>if a.length+b.length≤1000000 then some (.sh (.str (a++b)),E)else none
 |.list a,.list b=>if decide (a.length+b.length≤1000000)&&(!gR E s1||bx a)&&(!gR E s2||bx b)then some (.ow (a++b),E)else none
 |_,_=>none
theorem small{n:Nat}(h:n≤1000000):n < sizeLine:=sm h (by rw[sizeLine_eq];decide)
theorem eX{n:Nat}(h:n≤1000000):n≤sizeLine:=g7 (small h)
section
variable {K:Frag} {B F:Hp} {A:List Addr} {σ:i8} {H:Hp} {E:List Sl} {xs:List V} {Xs:List Sl} {v:V} {s:Sl} {ds:List PyData}
theorem FrF.items{k:Nat}(h:FrF K B F A σ H E xs Xs)(e:Xs[k]? =some s)(q:PL.look E s=some (.list ds))(c:(!gR E s||bx ds)=true):∃a vs,xs[k]? =some (.ref a)∧SqL K H a vs∧RpA K F vs ds:=by
 obtain⟨v,ev,r,f⟩:=h.look e q
 cases hh:gR E s with
 |false=>
  obtain⟨a,vs,rfl,h1,h2⟩:=f hh
  exact⟨a,vs,ev,h1,h2⟩
 |true=>
  rw[hh]at c
  cases r with
  |lst h1 h2=>exact⟨_,_,ev,h1,h.coldA h2 (by simpa using c)⟩
theorem FrF.res2l{v1 v2:V}{s1 s2:Sl}{vs:List V}(h:FrF K B F A σ H E (v2::v1::xs) (s2::s1::Xs))(r:RpA K F vs ds){p:Addr}(hp:H p=none):Frm K B σ (upd H p (.lst vs)) E (.ref p::xs) (.ow ds::Xs):=by
 obtain⟨A1,h⟩:=h.pop
 obtain⟨A2,h⟩:=h.pop
 exact⟨F,_,h.newl r hp⟩
end
abbrev yy(K:Frag):R2:=fun x y H Q=>(∃i j,x=.int i∧y=.int j∧Q (.int (i+j)) H)∨(∃i j,x=.str i∧y=.str j∧i.length+j.length≤sizeLine∧Q (.str (i++j)) H)∨yw K x y H Q
theorem wW{X:Cx}:OpR X (binaryOp .Add) (yy X.K):=OpR.or zd (OpR.or p_ wU)
theorem wX{K:Frag}:gk K (yy K) dC:=by
 intro B F A σ H E xs Xs v1 v2 s1 s2 res E' Q fr e q
 obtain⟨d1,e1,e⟩:=Za.mp e
 obtain⟨d2,e2,e⟩:=Za.mp e
 have r1:=(fr.look1 e1).1
 have r2:=(fr.look0 e2).1
 split at e
 ·cases e;cases r1;cases r2
  exact .inl ⟨_,_,rfl,rfl,q _ _ (fr.res2 ⟨rfl,_,rfl,.int _⟩)⟩
 ·split at e
  ·rename_i hl
   cases e;cases r1;cases r2
   exact .inr (.inl ⟨_,_,rfl,rfl,eX hl,q _ _ (fr.res2 ⟨rfl,_,rfl,.str _⟩)⟩)
  ·cases e
 ·split at e
  ·rename_i hc
   cases e
   simp only[pW,decide_eq_true_eq]at hc
   obtain⟨a1,u1,x1,q1,i1⟩:=fr.items (k:=1) rfl e1 hc.1.2
   obtain⟨a2,u2,x2,q2,i2⟩:=fr.items (k:=0) rfl e2 hc.2
   cases x1;cases x2
   have l1:=i1.len
   have l2:=i2.len
   exact .inr (.inr ⟨_,_,_,_,rfl,rfl,q1,q2,eX (by omega),fun p hp=>q _ _ (fr.res2l (i1.append i2) hp)⟩)
  ·cases e
 ·cases e
def cw:P2:=fF (oA (fun _ j=>gV j) fun i j=>.int (i / j))
def cZ:P2:=fF (oA (fun _ j=>decide (0 < j)) fun i j=>.int (i % j))
def oB:P2:=fF (oA (fun i j=>decide (0≤j∧j≤1000000∧ -(2 ^ 64) < i∧i < 2 ^ 64)) fun i j=>.int (i ^ j.toNat))
section
variable {X:Cx}
theorem uI:OpR X (binaryOp .FloorDiv) (yu (fun _ j=>gV j) fun i j=>.int (i / j)):=AD fun i j _ _ _ _ _ hc q=>by
 obtain⟨h1,h2⟩:=of_decide_eq_true hc
 have h3:j.natAbs.log2 < 9000:=by
  have:j.natAbs < 2 ^ 200:=by omega
  have:=(Nat.log2_lt (n:=j.natAbs) (k:=200) (by omega)).mpr this
  omega
 exact floordiv_int (by omega) (by rw[Int.fdiv_eq_ediv_of_nonneg i (by omega)];exact q) (.inl (PyProof.noPylong_of_log2 h3))
theorem wY:OpR X (binaryOp .Mod) (yu (fun _ j=>decide (0 < j)) fun i j=>.int (i % j)):=OpR.imp ze fun x y H Q ⟨i,j,a,b,c,q⟩=>⟨i,j,a,b,of_decide_eq_true c,q⟩
theorem rk{i j:Int}(c:0≤j∧j≤1000000∧ -(2 ^ 64) < i∧i < 2 ^ 64):zc i j:=⟨c.1,c.2.1,by omega⟩
theorem wZ:OpR X (binaryOp .Pow) (yu (fun i j=>decide (0≤j∧j≤1000000∧ -(2 ^ 64) < i∧i < 2 ^ 64)) fun i j=>.int (i ^ j.toNat)):=OpR.imp zf fun x y H Q ⟨i,j,a,b,c,q⟩=>⟨i,j,a,b,rk (of_decide_eq_true c),q⟩
end
def iL:P2:=fun E s1 s2=>(look E s1).bind fun d1=>(look E s2).bind fun d2=>match d1,d2 with
 |.int i,.int j=>if fj i j then some (.sh (.int (i*j)),E)else none
 |.list a,.int k=>if decide (a.length*k.toNat≤1000000∧ -1000000≤k∧k≤1000000)&&(!gR E s1||bx a)then some (.ow (List.replicate k.toNat a).flatten,E)else none
 |_,_=>none
abbrev yz(K:Frag):R2:=fun x y H Q=>yu fj (fun i j=>.int (i*j)) x y H Q∨yx K x y H Q
theorem w5{X:Cx}:OpR X (binaryOp .Mult) (yz X.K):=OpR.or (AD fun _ _ _ _ _ _ _ hc q=>mul_int q (uH hc)) wV
theorem w6{K:Frag}:gk K (yz K) iL:=by
 intro B F A σ H E xs Xs v1 v2 s1 s2 res E' Q fr e q
 obtain⟨d1,e1,e⟩:=Za.mp e
 obtain⟨d2,e2,e⟩:=Za.mp e
 have r1:=(fr.look1 e1).1
 have r2:=(fr.look0 e2).1
 split at e
 ·split at e
  ·rename_i hm
   cases e;cases r1;cases r2
   exact .inl ⟨_,_,rfl,rfl,hm,q _ _ (fr.res2 ⟨rfl,_,rfl,.int _⟩)⟩
  ·cases e
 ·split at e
  ·rename_i hc
   cases e
   simp only[pW,decide_eq_true_eq]at hc
   obtain⟨a1,u1,x1,q1,i1⟩:=fr.items (k:=1) rfl e1 hc.2
   cases x1;cases r2
   have l1:=i1.len
   exact .inr ⟨_,_,_,rfl,rfl,q1,by omega,by omega,eX (by rw[l1];exact hc.1.1),fun p hp=>q _ _ (fr.res2l (i1.rep _) hp)⟩
  ·cases e
 ·cases e
section
variable {X:Cx} {a b:Expr} {m1 m2:Bool} {f g:aO} {pos:Pos}
theorem eY(ha:EX X a m1 f)(hb:EX X b m2 g):EX X (.BinOp a .Add b pos) (m1||m2) (af dC m2 f g):=jI wW wX ha hb
theorem hO(ha:EX X a m1 f)(hb:EX X b m2 g):EX X (.BinOp a .Mult b pos) (m1||m2) (af iL m2 f g):=jI w5 w6 ha hb
theorem eM(ha:EX X a m1 f)(hb:EX X b m2 g):EX X (.BinOp a .FloorDiv b pos) (m1||m2) (af cw m2 f g):=jI uI (je fun _ _=>rfl) ha hb
theorem dJ(ha:EX X a m1 f)(hb:EX X b m2 g):EX X (.BinOp a .Mod b pos) (m1||m2) (af cZ m2 f g):=jI wY (je fun _ _=>rfl) ha hb
theorem uJ(ha:EX X a m1 f)(hb:EX X b m2 g):EX X (.BinOp a .Pow b pos) (m1||m2) (af oB m2 f g):=jI wZ (je fun _ _=>rfl) ha hb
end
def Co(K:Frag)(r:V→Hp→VK→Prop)(op:PyData→Option PyData):Prop:=∀(d1 d:PyData) (v1:V) (H:Hp) (Q:VK),op d1=some d→Rp K H v1 d1→∃v,yt d=some v∧(Q v H→r v1 H Q)
def lD(op:PyData→Option PyData)(f:aO):aO:=fun E=>(f E).bind fun a=>(look a.2 a.1).bind fun d1=>(op d1).map fun d=>(.sh d,a.2)
theorem Bp{K:Frag}{r:V→Hp→VK→Prop}{op:PyData→Option PyData}(hp:Co K r op){m:Bool}{f:aO}{σ:i8}{H:Hp}{Q:VK}(h:rd K m (lD op f) σ H Q):rd K m f σ H (fun x H1=>r x H1 Q):=by
 obtain⟨B,E,xs,Xs,res,E',fr,c,e,q⟩:=h
 obtain⟨⟨s1,E1⟩,e1,e⟩:=Za.mp e
 obtain⟨d1,e2,e⟩:=Za.mp e
 obtain⟨d,e3,e⟩:=Zab.mp e
 cases e
 refine⟨B,E,xs,Xs,s1,E1,fr,c,e1,fun v1 H1 ⟨F,A,fr1⟩=>?_⟩
 obtain⟨v,hv,k⟩:=hp d1 d v1 H1 Q e3 (fr1.look0 e2).1
 obtain⟨A',fr2⟩:=fr1.pop
 exact k (q v H1 ⟨F,A',fr2.push ⟨rfl,v,rfl,ko hv⟩⟩)
def sM:PyData→Option PyData
 |.int i=>some (.int (-i))
 |_=>none
section
variable {X:Cx} {a b c:Expr} {m1 m2 m3:Bool} {f g h:aO} {pos:Pos}
theorem zC(ha:EX X a m1 f):EX X (.UnaryOp .USub a pos) m1 (lD sM f):=bv (AY zj ha) fun σ H Q h=>Bp (r:=rU fun i=>.int (-i)) (fun d1 d v1 H Q e r=>by
 cases d1 <;> simp[sM]at e
 cases e;cases r
 exact⟨_,rfl,fun q=>⟨_,rfl,q⟩⟩) h
end
def w_(d1 d2:PyData):Option Bool:=match d1,d2 with
 |.int i,.int j=>some (decide (i=j))
 |.str a,.str b=>some (decide (a=b))
 |.bool a,.bool b=>some (decide (a=b))
 |.none,.none=>some true
 |.none,.str _=>some false
 |.str _,.none=>some false
 |d1,d2=>if SeqAt.shaped d1&&SeqAt.shaped d2 then some (PyData.eqv d1 d2)else none
def jU:P2:=fF fun d1 d2=>(w_ d1 d2).map fun b=>.bool b
def AG:P2:=fF fun d1 d2=>(w_ d1 d2).map fun b=>.bool (!b)
abbrev Cp(K:Frag):R2:=fun x y H Q=>CC x y H Q∨Bl K x y H Q
abbrev Cq(K:Frag):R2:=fun x y H Q=>CD x y H Q∨Bm K x y H Q
theorem uK{K:Frag}{H:Hp}{v1 v2:V}{d1 d2:PyData}{b:Bool}(e:w_ d1 d2=some b)(r1:Rp K H v1 d1)(r2:Rp K H v2 d2):
  (zk v1 v2=true∧decide (v1=v2)=b)∨(DOf K H v1 d1∧DOf K H v2 d2∧SeqAt.shaped d1=true∧SeqAt.shaped d2=true∧PyData.eqv d1 d2=b):=by
 unfold w_ at e
 split at e
 ·cases e;cases r1;cases r2;exact .inl ⟨rfl,by simp⟩
 ·cases e;cases r1;cases r2;exact .inl ⟨rfl,by simp⟩
 ·cases e;cases r1;cases r2;exact .inl ⟨rfl,by simp⟩
 ·cases e;cases r1;cases r2;exact .inl ⟨rfl,rfl⟩
 ·cases e;cases r1;cases r2;exact .inl ⟨rfl,rfl⟩
 ·cases e;cases r1;cases r2;exact .inl ⟨rfl,rfl⟩
 ·split at e
  ·rename_i hs
   cases e
   simp only[pW]at hs
   exact .inr ⟨r1.dof hs.1,r2.dof hs.2,hs.1,hs.2,rfl⟩
  ·cases e
theorem uL{K:Frag}:gk K (Cp K) jU:=jd fun d1 d2 d v1 v2 H Q e r1 r2=>by
 obtain⟨b,e',rfl⟩:=Zab.mp e
 refine⟨_,rfl,fun q=>?_⟩
 rcases uK e' r1 r2 with⟨a,rfl⟩ |⟨a1,a2,a3,a4,rfl⟩
 ·exact .inl ⟨a,q⟩
 ·exact .inr ⟨_,_,a1,a2,a3,a4,q⟩
theorem zD{K:Frag}:gk K (Cq K) AG:=jd fun d1 d2 d v1 v2 H Q e r1 r2=>by
 obtain⟨b,e',rfl⟩:=Zab.mp e
 refine⟨_,rfl,fun q=>?_⟩
 rcases uK e' r1 r2 with⟨a,rfl⟩ |⟨a1,a2,a3,a4,rfl⟩
 ·exact .inl ⟨a,q⟩
 ·exact .inr ⟨_,_,a1,a2,a3,a4,q⟩
def oC(K:Frag)(r:R2)(op:PyData→PyData→Option PyData):Prop:=∀(d1 d2 d:PyData) (v1 v2:V) (H:Hp) (Q:VK),op d1 d2=some d→Rp K H v1 d1→Rp K H v2 d2→∃v,yt d=some v∧(Q v H→r v1 v2 H Q)
def eC(op op':PyData→PyData→Option PyData)(m2 m3:Bool)(f g h:aO):aO:=fun E=>(f E).bind fun a=>if (m2||m3)&&a.1.isBr then none else (g a.2).bind fun b=>if m3&&b.1.isBr then none else
 (look b.2 a.1).bind fun d1=>(look b.2 b.1).bind fun d2=>match op d1 d2 with
  |some (.bool true)=>(h b.2).bind fun c=>(look c.2 b.1).bind fun d2=>(look c.2 c.1).bind fun d3=>(op' d2 d3).map fun d=>(.sh d,c.2)
  |some (.bool false)=>some (.sh (.bool false),b.2)
  |_=>none
section
variable {X:Cx} {a b c:Expr} {m1 m2 m3:Bool} {f g h:aO} {pos:Pos}
theorem uM(hu:X.A.units+64 < cLine)(ha:EX X a m1 f)(hb:EX X b m2 g):EX X (.Compare a [.Eq] [b] pos) (m1||m2) (af jU m2 f g):=uG (OpR.or ym (uD hu)) uL ha hb (mT _)
theorem oD(hu:X.A.units+64 < cLine)(ha:EX X a m1 f)(hb:EX X b m2 g):TX X (.Compare a [.Eq] [b] pos) (m1||m2) (eL (af jU m2 f g)):=m_ (OpR.or ym (uD hu)) uL ha hb (mT _)
theorem Bq(hu:X.A.units+64 < cLine)(ha:EX X a m1 f)(hb:EX X b m2 g):TX X (.Compare a [.NotEq] [b] pos) (m1||m2) (eL (af AG m2 f g)):=m_ (OpR.or A8 (zt hu)) zD ha hb (mT _)
theorem oE{K:Frag}{r r':R2}{op op':PyData→PyData→Option PyData}(k:oC K r op)(k':oC K r' op'){σ:i8}{H:Hp}{Q:VK}(z:rd K (m1||(m2||m3)) (eC op op' m2 m3 f g h) σ H Q):p7 r r' (rd K m1 f) (rd K m2 g) (rd K m3 h) σ H Q:=by
 obtain⟨B,E,xs,Xs,res,E',fr,cl,e,q⟩:=z
 obtain⟨⟨s1,E1⟩,e1,e⟩:=Za.mp e
 by_cases hb:((m2||m3)&&s1.isBr)=true
 ·rw[if_pos hb]at e;cases e
 rw[if_neg hb]at e
 obtain⟨⟨s2,E2⟩,e2,e⟩:=Za.mp e
 by_cases hb2:(m3&&s2.isBr)=true
 ·rw[if_pos hb2]at e;cases e
 rw[if_neg hb2]at e
 obtain⟨d1,l1,e⟩:=Za.mp e
 obtain⟨d2,l2,e⟩:=Za.mp e
 have n1:(m2||m3)=true→s1.isBr=false:=fun z=>by
  cases hs:s1.isBr with
  |false=>rfl
  |true=>exact absurd (by rw[z,hs];rfl) hb
 have n2:m3=true→s2.isBr=false:=fun z=>by
  cases hs:s2.isBr with
  |false=>rfl
  |true=>exact absurd (by rw[z,hs];rfl) hb2
 refine⟨B,E,xs,Xs,s1,E1,fr,fun z=>cl (by simp[z]),e1,fun v1 H1 fr1=>?_⟩
 refine⟨B,E1,v1::xs,s1::Xs,s2,E2,fr1,fun z=>Calm.cons (cl (by simp[z])) (n1 (by simp[z])),e2,fun v2 H2 ⟨F,A,fr2⟩=>?_⟩
 cases ho:op d1 d2 with
 |none=>rw[ho]at e;cases e
 |some d=>
  rw[ho]at e
  obtain⟨v,hv,kk⟩:=k d1 d2 d v1 v2 H2 (fun z H3=>∃k,z=.bl k∧(if k=true then rd K m3 h σ H3 fun w' H4=>r' v2 w' H4 Q else Q (.bl false) H3)) ho (fr2.look1 l1).1 (fr2.look0 l2).1
  cases d with
  |bool t=>
   cases hv
   refine kk ⟨t,rfl,?_⟩
   cases t with
   |true=>
    rw[if_pos rfl]
    obtain⟨⟨s3,E3⟩,e3,e⟩:=Za.mp e
    obtain⟨d2',l2',e⟩:=Za.mp e
    obtain⟨d3,l3,e⟩:=Za.mp e
    obtain⟨d,ho',e⟩:=Zab.mp e
    cases e
    refine⟨B,E2,v2::v1::xs,s2::s1::Xs,s3,E3,⟨F,A,fr2⟩,fun z=>Calm.cons (Calm.cons (cl (by simp[z])) (n1 (by simp[z]))) (n2 z),e3,fun v3 H3 ⟨F3,A3,fr3⟩=>?_⟩
    obtain⟨v,hv,kk⟩:=k' d2' d3 d v2 v3 H3 Q ho' (fr3.look1 l2').1 (fr3.look0 l3).1
    obtain⟨A4,fr4⟩:=fr3.pop
    exact kk (q v H3 (fr4.res2 ⟨rfl,v,rfl,ko hv⟩))
   |false=>
    rw[if_neg (by decide)]
    cases e
    exact q _ _ (fr2.res2 ⟨rfl,_,rfl,.bl _⟩)
  |none=>cases e
  |int i=>cases e
  |str x=>cases e
  |list xs=>cases e
  |tuple xs=>cases e
  |dict kvs=>cases e
theorem uN{o1 o2:CmpOp}{r r':R2}{op op':PyData→PyData→Option PyData}(ho:OpR X (compareOp o1) r)(ho':OpR X (compareOp o2) r')(k:oC X.K r op)(k':oC X.K r' op')(ha:EX X a m1 f)(hb:EX X b m2 g)(hc:EX X c m3 h)
  (hm:lastMarks [o1,o2] [b,c]=false:=by with_unfolding_all rfl):EX X (.Compare a [o1,o2] [b,c] pos) (m1||(m2||m3)) (eC op op' m2 m3 f g h):=bv (ur ho ho' ha hb hc hm) fun _ _ _ z=>oE k k' z
end
end PL
namespace PL
open PySem L2 Nh
def kr(f g:aO):aO:=fun E=>(f E).bind fun a=>match a.1 with
 |.sh (.bool true)=>g a.2
 |.sh (.bool false)=>some (.sh (.bool false),a.2)
 |_=>none
def rn(f g:gh):gh:=fun E=>(f E).bind fun a=>if a.1 then g a.2 else some (false,a.2)
def nh(f g:gh):gh:=fun E=>(f E).bind fun a=>if a.1 then some (true,a.2)else g a.2
def bS(f:gh):gh:=fun E=>(f E).map fun a=>(!a.1,a.2)
def gl:PyData→Option Bool
 |.none=>some false
 |.bool b=>some b
 |.int i=>some (i != 0)
 |.str x=>if x.length≤1000000 then some ((x.length:Int) != 0)else none
 |.list xs=>some (!xs.isEmpty)
 |.tuple xs=>some (!xs.isEmpty)
 |.dict _=>none
def dW(f:aO):gh:=fun E=>(f E).bind fun a=>match a.1 with
 |.al i=>match a.2[i]? with
  |some (.od kvs)=>some (!kvs.isEmpty,a.2)
  |some s=>(s.val.bind gl).map fun b=>(b,a.2)
  |none=>none
 |s=>(s.val.bind gl).map fun b=>(b,a.2)
section
variable {X:Cx} {a b c:Expr} {aA:List Expr} {m1 m2 m3:Bool} {f g h:aO} {t u:gh} {pos:Pos} {K:Frag}
theorem uO{op}(h:EX X a m1 f):EX X (.BoolOp op [a] pos) m1 f:=yW h
theorem qe(ha:EX X a m1 f)(hb:EX X (.BoolOp .And (b::aA) pos) m2 g):EX X (.BoolOp .And (a::b::aA) pos) (m1||m2) (kr f g):=by
 refine bv (yX ha hb) fun σ H Q z=>?_
 obtain⟨B,E,xs,Xs,res,E',fr,cl,e,q⟩:=z
 obtain⟨⟨s1,E1⟩,e1,e⟩:=Za.mp e
 refine⟨B,E,xs,Xs,s1,E1,fr,fun z=>cl (by simp[z]),e1,fun v1 H1 ⟨F,A,fr1⟩=>?_⟩
 simp only at e
 split at e
 ·obtain⟨r,_⟩:=fr1.look0 (d:=.bool true) rfl
  cases r
  obtain⟨A',fr2⟩:=fr1.pop
  exact⟨true,rfl,(if_pos rfl).mpr ⟨B,E1,xs,Xs,res,E',⟨F,A',fr2⟩,fun z=>cl (by simp[z]),e,q⟩⟩
 ·cases e
  obtain⟨r,_⟩:=fr1.look0 (d:=.bool false) rfl
  cases r
  exact⟨false,rfl,(if_neg (by decide)).mpr (q _ _ ⟨F,A,fr1⟩)⟩
 ·cases e
theorem xa(ha:TX X a m1 t):WX X (.BoolOp .And [a] pos) m1 t:=ww ha
theorem uP(ha:TX X a m1 t):WX X (.BoolOp .Or [a] pos) m1 t:=yT ha
theorem zE(ha:TX X a m1 t)(hb:WX X (.BoolOp .And (b::aA) pos) m2 u):WX X (.BoolOp .And (a::b::aA) pos) (m1||m2) (rn t u):=by
 refine uF (yU ha hb) fun σ H Q z=>?_
 obtain⟨B,E,xs,Xs,res,E',fr,cl,e,q⟩:=z
 obtain⟨⟨b1,E1⟩,e1,e⟩:=Za.mp e
 refine⟨B,E,xs,Xs,b1,E1,fr,fun z=>cl (by simp[z]),e1,fun H1 fr1=>?_⟩
 cases b1 with
 |true=>exact(if_pos rfl).mpr ⟨B,E1,xs,Xs,res,E',fr1,fun z=>cl (by simp[z]),e,q⟩
 |false=>cases e;exact(if_neg (by decide)).mpr (q _ fr1)
theorem yA(ha:TX X a m1 t)(hb:WX X (.BoolOp .Or (b::aA) pos) m2 u):WX X (.BoolOp .Or (a::b::aA) pos) (m1||m2) (nh t u):=by
 refine uF (AN ha hb) fun σ H Q z=>?_
 obtain⟨B,E,xs,Xs,res,E',fr,cl,e,q⟩:=z
 obtain⟨⟨b1,E1⟩,e1,e⟩:=Za.mp e
 refine⟨B,E,xs,Xs,b1,E1,fr,fun z=>cl (by simp[z]),e1,fun H1 fr1=>?_⟩
 cases b1 with
 |true=>cases e;exact(if_pos rfl).mpr (q _ fr1)
 |false=>exact(if_neg (by decide)).mpr ⟨B,E1,xs,Xs,res,E',fr1,fun z=>cl (by simp[z]),e,q⟩
theorem zF(h:WX X a m1 t):TX X a m1 t:=PW.pt h
theorem hZ(ha:TX X a m1 t):TX X (.UnaryOp .Not a pos) m1 (bS t):=by
 refine m7 (yV ha) fun σ H Q z=>?_
 obtain⟨B,E,xs,Xs,res,E',fr,cl,e,q⟩:=z
 obtain⟨⟨b1,E1⟩,e1,e⟩:=Zab.mp e
 cases e
 exact⟨B,E,xs,Xs,b1,E1,fr,cl,e1,fun H1 fr1=>q _ fr1⟩
theorem uQ{H:Hp}{v:V}{d:PyData}{b:Bool}(r:Rp K H v d)(e:gl d=some b):oj K v H b:=by
 cases r with
 |non=>cases e;rfl
 |bl b=>cases e;rfl
 |int i=>cases e;rfl
 |str x=>
  simp only[gl]at e
  split at e
  ·rename_i hl
   cases e
   exact⟨eX hl,rfl⟩
  ·cases e
 |lst h r=>cases e;exact .inl ⟨_,h,by cases r <;> rfl⟩
 |tup h r=>cases e;exact .inr (.inl ⟨_,h,by cases r <;> rfl⟩)
 |dct h r=>cases e
theorem h7(ha:EX X a m1 f)(he:∀whole,isTrue a X.env whole=(do let v ←whole;standAt a.pos;holding [v] (truthy v)):=by exact fun _=>rfl):TX X a m1 (dW f):=by
 refine m7 (uu ha he) fun σ H Q z=>?_
 obtain⟨B,E,xs,Xs,res,E',fr,cl,e,q⟩:=z
 obtain⟨⟨s,E1⟩,e1,e⟩:=Za.mp e
 refine⟨B,E,xs,Xs,s,E1,fr,cl,e1,fun v1 H1 ⟨F,A,fr1⟩=>?_⟩
 have key:∀d,look E1 s=some d→(gl d).map (fun b=>(b,E1))=some (res,E')→∃k,oj X.K v1 H1 k∧Q k H1:=fun d l e=>by
  obtain⟨b,e',z⟩:=Zab.mp e
  cases z
  obtain⟨A',fr2⟩:=fr1.pop
  exact⟨_,uQ (fr1.look0 l).1 e',q _ ⟨F,A',fr2⟩⟩
 have kv:(s.val.bind gl).map (fun b=>(b,E1))=some (res,E')→(∀i,s≠ .al i)→∃k,oj X.K v1 H1 k∧Q k H1:=fun e na=>by
  obtain⟨b,e',z⟩:=Zab.mp e
  obtain⟨d,e1,e2⟩:=Za.mp e'
  refine key d ?_ (by rw[e2];exact congrArg some z)
  cases s <;> first |exact e1 |exact absurd rfl (na _)
 simp only at e
 split at e
 ·rename_i i
  split at e
  ·rename_i kvs ei
   cases e
   obtain⟨v',A1,ev,rfl,w,ew,hw⟩:=fr1.ext (k:=0) rfl
   cases ev;cases ew
   obtain⟨o,A1,eo,l,us,A2,rfl,_,hl,r⟩:=fr1.var ei
   rw[hw]at eo
   cases eo
   obtain⟨A',fr2⟩:=fr1.pop
   exact⟨_,.inr (.inr ⟨_,hl,by cases us <;> cases kvs <;> first |rfl |exact False.elim r⟩),q _ ⟨F,A',fr2⟩⟩
  ·rename_i s' _ ei
   obtain⟨b,e',z⟩:=Zab.mp e
   obtain⟨d,e1,e2⟩:=Za.mp e'
   exact key d (by simp[look,ei,e1]) (by rw[e2];exact congrArg some z)
  ·cases e
 ·rename_i na
  exact kv e na
end
theorem uR{X:Cx}{a b c:Expr}{m1 m2 m3:Bool}{f g h:aO}{pos:Pos}{o1 o2:CmpOp}{r r':R2}{op op':PyData→PyData→Option PyData}(ho:OpR X (compareOp o1) r)(ho':OpR X (compareOp o2) r')(k:oC X.K r op)(k':oC X.K r' op')(ha:EX X a m1 f)(hb:EX X b m2 g)(hc:EX X c m3 h)
  (hm:lastMarks [o1,o2] [b,c]=false:=by with_unfolding_all rfl):TX X (.Compare a [o1,o2] [b,c] pos) (m1||(m2||m3)) (eL (eC op op' m2 m3 f g h)):=m7 (ut ho ho' ha hb hc hm) fun _ _ _ z=>oE k k' (qd z)
def ai:oz:=fun E=>some ([],E)
def ab(m2:Bool)(f:aO)(g:oz):oz:=fun E=>(f E).bind fun a=>if m2&&a.1.isBr then none else (g a.2).map fun b=>(a.1::b.1,b.2)
def gS:iJ:=fun E=>some ([],E)
def fG(f:aO)(g:iJ):iJ:=fun E=>(f E).bind fun a=>(frz a.2 a.1).bind fun b=>(g b.2).map fun c=>(b.1::c.1,c.2)
def xb(f:iJ):aO:=fun E=>(f E).bind fun a=>if a.1.length≤1000000 then some (.sh (.tuple a.1),a.2)else none
def h8(f:iJ):aO:=fun E=>(f E).bind fun a=>if a.1.length≤1000000 then some (.ow a.1,a.2)else none
section
variable {X:Cx} {e:Expr} {es:List Expr} {m1 m2:Bool} {f:aO} {g:oz} {d:iJ} {pos:Pos} {K:Frag}
theorem ar:AX X [] false ai:=by
 refine m8 eW fun σ H Q z=>?_
 obtain⟨B,E,xs,Xs,res,E',fr,cl,e,q⟩:=z
 cases e
 exact q [] H rfl fr
theorem ah(ha:EX X e m1 f)(hr:AX X es m2 g)(hs:starEach (e::es) X.env=(false,eval e X.env)::starEach es X.env:=by rfl):AX X (e::es) (m1||m2) (ab m2 f g):=by
 refine m8 (cV ha hr hs) fun σ H Q z=>?_
 obtain⟨B,E,xs,Xs,res,E',fr,cl,e,q⟩:=z
 obtain⟨⟨s,E1⟩,e1,e⟩:=Za.mp e
 by_cases hb:(m2&&s.isBr)=true
 ·rw[if_pos hb]at e;cases e
 rw[if_neg hb]at e
 obtain⟨⟨rs,E2⟩,e2,e⟩:=Zab.mp e
 cases e
 refine⟨B,E,xs,Xs,s,E1,fr,fun z=>cl (by simp[z]),e1,fun v1 H1 fr1=>?_⟩
 refine⟨B,E1,v1::xs,s::Xs,rs,E2,fr1,fun z=>Calm.cons (cl (by simp[z])) ?_,e2,fun vs H2 hl fr2=>?_⟩
 ·cases hs:s.isBr with
  |false=>rfl
  |true=>exact absurd (by simp[z,hs]) hb
 ·exact q (v1::vs) H2 (by simp[hl]) (by simpa using fr2)
theorem jf:DX X [] false gS:=by
 refine m8 eW fun σ H Q z=>?_
 obtain⟨B,E,xs,Xs,res,E',fr,cl,e,q⟩:=z
 cases e
 exact q [] H rfl fr
theorem gK(ha:EX X e m1 f)(hr:DX X es m2 d)(hs:starEach (e::es) X.env=(false,eval e X.env)::starEach es X.env:=by rfl):DX X (e::es) (m1||m2) (fG f d):=by
 refine m8 (cV ha hr hs) fun σ H Q z=>?_
 obtain⟨B,E,xs,Xs,res,E',fr,cl,e,q⟩:=z
 obtain⟨⟨s,E1⟩,e1,e⟩:=Za.mp e
 obtain⟨⟨d1,E2⟩,e2,e⟩:=Za.mp e
 obtain⟨⟨rs,E3⟩,e3,e⟩:=Zab.mp e
 cases e
 refine⟨B,E,xs,Xs,s,E1,fr,fun z=>cl (by simp[z]),e1,fun v1 H1 ⟨F,A,fr1⟩=>?_⟩
 obtain⟨F2,A2,fr2⟩:=fr1.frz0 e2
 refine⟨B,E2,v1::xs,.sh d1::Xs,rs,E3,⟨F2,A2,fr2⟩,fun z=>Calm.cons (cl (by simp[z])) rfl,e3,fun vs H2 hl fr2=>?_⟩
 exact q (v1::vs) H2 (by simp[hl]) (by simpa using fr2)
theorem FrF.shsR{B F:Hp}{σ:i8}{H:Hp}{E:List Sl}{xs:List V}{Xs:List Sl}:∀{us:List V} {es:List PyData} {A:List Addr},us.length=es.length→FrF K B F A σ H E (us++xs) (es.map .sh++Xs)→RpA K F us es∧∃A',FrF K B F A' σ H E xs Xs
 |[],[],A,_,h=>⟨.nil,A,h⟩
 |u::us,e::es,A,hl,h=>by
  obtain⟨v,A1,ev,rfl,w,ew,r⟩:=h.ext (k:=0) rfl
  cases ev;cases ew
  obtain⟨A',h'⟩:=FrF.pop (xs:=us++xs) (Xs:=es.map .sh++Xs) h
  obtain⟨r',q⟩:=FrF.shsR (by simpa using hl) h'
  exact⟨.cons r r',q⟩
 |[],_::_,_,e,_=>by cases e
 |_::_,[],_,e,_=>by cases e
theorem FrF.shs{B F:Hp}{σ:i8}{H:Hp}{E:List Sl}{xs:List V}{Xs:List Sl}{us:List V}{es:List PyData}{A:List Addr}(hl:us.length=es.length)(h:FrF K B F A σ H E (us.reverse++xs) (es.reverse.map .sh++Xs)):RpA K F us es∧∃A',FrF K B F A' σ H E xs Xs:=by
 obtain⟨r,q⟩:=FrF.shsR (by simpa using hl) h
 have:=r.rev
 rw[List.reverse_reverse,List.reverse_reverse]at this
 exact⟨this,q⟩
theorem zG{x1}(h:DX X es m1 d):EX X (.Tuple es x1 pos) m1 (xb d):=by
 refine bv (zl h) fun σ H Q z=>?_
 obtain⟨B,E,xs,Xs,res,E',fr,cl,e,q⟩:=z
 obtain⟨⟨ds,E1⟩,e1,e⟩:=Za.mp e
 simp only at e
 split at e
 ·rename_i hl
  cases e
  refine⟨B,E,xs,Xs,ds,_,fr,cl,e1,fun vs H1 hv ⟨F,A,fr1⟩=>?_⟩
  obtain⟨r,A',fr2⟩:=fr1.shs hv
  exact⟨eX (by omega),fun p hp=>q _ _ ⟨_,_,fr2.newt r hp⟩⟩
 ·cases e
theorem kt(h:DX X es m1 d):EX X (.List es pos) m1 (h8 d):=by
 refine bv (zn h) fun σ H Q z=>?_
 obtain⟨B,E,xs,Xs,res,E',fr,cl,e,q⟩:=z
 obtain⟨⟨ds,E1⟩,e1,e⟩:=Za.mp e
 simp only at e
 split at e
 ·rename_i hl
  cases e
  refine⟨B,E,xs,Xs,ds,_,fr,cl,e1,fun vs H1 hv ⟨F,A,fr1⟩=>?_⟩
  obtain⟨r,A',fr2⟩:=fr1.shs hv
  exact⟨eX (by omega),fun p hp=>q _ _ ⟨_,_,fr2.newl r hp⟩⟩
 ·cases e
end
def qf(ds:List PyData)(lo hi:Option Int):List PyData:=(ds.drop (HT.j6 ds.length 0 lo)).take (HT.j6 ds.length ds.length hi - HT.j6 ds.length 0 lo)
def sN:P2:=fun E s1 s2=>(look E s1).bind fun d1=>(look E s2).bind fun d2=>match d2 with
 |.int i=>match d1 with
  |.list ds=>(atI ds i).map fun d=>(if gR E s1&& !cE d then .br d else .sh d,E)
  |.tuple ds=>(atI ds i).map fun d=>(if gR E s1&& !cE d then .br d else .sh d,E)
  |.str z=>if z.length≤1000000 then (atI z.cps.toList i).map fun c=>(.sh (.str ⟨#[c]⟩),E)else none
  |_=>none
 |_=>none
section
variable {K:Frag} {H:Hp}
theorem RpA.atI{vs:List V}{ds:List PyData}{i:Int}{d:PyData}(h:RpA K H vs ds)(e:L2.atI ds i=some d):∃v,L2.atI vs i=some v∧Rp K H v d:=by
 unfold L2.atI at e ⊢
 obtain⟨j,e1,e2⟩:=Za.mp e
 obtain⟨v,ev,r⟩:=h.get e2
 exact⟨v,by rw[h.len,e1];exact ev,r⟩
theorem FrF.item{B F:Hp}{A:List Addr}{σ:i8}{E:List Sl}{xs:List V}{Xs:List Sl}{v1 v2 v:V}{s1 s2:Sl}{d:PyData}(fr:FrF K B F A σ H E (v2::v1::xs) (s2::s1::Xs))(r:Rp K H v d)(f:gR E s1=false→Rp K F v d):
  Frm K B σ H E (v::xs) ((if gR E s1&& !cE d then .br d else .sh d)::Xs):=by
 by_cases hc:(gR E s1&& !cE d)=true
 ·rw[if_pos hc]
  exact fr.res2 ⟨rfl,v,rfl,r⟩
 ·rw[if_neg hc]
  refine fr.res2 ⟨rfl,v,rfl,?_⟩
  cases hh:gR E s1 with
  |false=>exact f hh
  |true=>
   rw[hh]at hc
   exact fr.cold r (by simpa using hc)
theorem zH:gk K (CF K) sN:=by
 intro B F A σ H E xs Xs v1 v2 s1 s2 res E' Q fr e q
 obtain⟨d1,e1,e⟩:=Za.mp e
 obtain⟨d2,e2,e⟩:=Za.mp e
 obtain⟨r1,f1⟩:=fr.look1 e1
 have r2:=(fr.look0 e2).1
 split at e
 ·cases r2
  split at e
  ·obtain⟨d,ed,e⟩:=Zab.mp e
   cases e
   cases hh:gR E s1 with
   |false=>
    obtain⟨a,vs,rfl,h1,h2⟩:=f1 hh
    obtain⟨v,ev,rv⟩:=h2.atI ed
    have z:=fr.item (rv.same fr.fh) fun _=>rv
    rw[hh]at z q
    exact .inl ⟨_,_,_,v,rfl,rfl,h1,ev,q _ _ z⟩
   |true=>
    cases r1 with
    |lst h1 h2=>
     obtain⟨v,ev,rv⟩:=h2.atI ed
     have z:=fr.item rv fun h=>absurd (hh.symm.trans h) (by decide)
     rw[hh]at z q
     exact .inl ⟨_,_,_,v,rfl,rfl,h1,ev,q _ _ z⟩
  ·obtain⟨d,ed,e⟩:=Zab.mp e
   cases e
   cases hh:gR E s1 with
   |false=>
    have h0:Rp K F v1 _:=f1 hh
    cases h0 with
    |tup h1 h2=>
     obtain⟨v,ev,rv⟩:=h2.atI ed
     have z:=fr.item (rv.same fr.fh) fun _=>rv
     rw[hh]at z q
     exact .inr (.inl ⟨_,_,_,v,rfl,rfl,fr.fh.tup h1,ev,q _ _ z⟩)
   |true=>
    cases r1 with
    |tup h1 h2=>
     obtain⟨v,ev,rv⟩:=h2.atI ed
     have z:=fr.item rv fun h=>absurd (hh.symm.trans h) (by decide)
     rw[hh]at z q
     exact .inr (.inl ⟨_,_,_,v,rfl,rfl,h1,ev,q _ _ z⟩)
  ·split at e
   ·rename_i hl
    obtain⟨c,ec,e⟩:=Zab.mp e
    cases e;cases r1
    exact .inr (.inr ⟨_,_,c,rfl,rfl,eX hl,ec,q _ _ (fr.res2 ⟨rfl,_,rfl,.str _⟩)⟩)
   ·cases e
  ·cases e
 ·cases e
end
end PL
namespace L2
open PySem PySem.Spec PyProof.Rows
section
variable {κ:Type} [DecidableEq κ]
def jV(kvs:List (κ×V))(k:κ):Option V:=(kvs.find? fun kv=>decide (kv.1=k)).map (·.2)
def oF(kvs:List (κ×V))(k:κ)(v:V):List (κ×V):=
 if (kvs.any fun kv=>decide (kv.1=k))=true then kvs.map (fun kv=>if kv.1=k then (kv.1,v)else kv)else kvs++[(k,v)]
def yB(kvs:List (κ×V))(k:κ):List (κ×V):=kvs.filter fun kv=>decide (kv.1≠k)
theorem ku{p:κ×V}{r:List (κ×V)}{k:κ}(e:p.1=k):jV (p::r) k=some p.2:=by simp[jV,List.find?_cons,e]
theorem kw{p:κ×V}{r:List (κ×V)}{k:κ}(e:¬p.1=k):jV (p::r) k=jV r k:=by simp[jV,List.find?_cons,e]
theorem oG(k:κ):∀kvs:List (κ×V),(kvs.any fun kv=>decide (kv.1=k))=(jV kvs k).isSome
 |[]=>rfl
 |p::r=>by
  rw[List.any_cons]
  by_cases e:p.1=k
  ·simp only[ku e,decide_eq_true e,Bool.true_or,Option.isSome_some]
  ·rw[kw e,decide_eq_false e,Bool.false_or];exact oG k r
theorem RelO.isSome_eq{o:Option V}{u:Option Value}(r:RelO o u):o.isSome=u.isSome:=by
 cases o with
 |none=>cases u with
  |none=>rfl
  |some _=>exact(show False from r).elim
 |some _=>cases u with
  |none=>exact(show False from r).elim
  |some _=>rfl
theorem RelO.getD{o:Option V}{u:Option Value}{d:V}{d':Value}(r:RelO o u)(rd:RelV d d'):RelV (o.getD d) (u.getD d'):=by
 cases o with
 |none=>cases u with
  |none=>exact rd
  |some _=>exact(show False from r).elim
 |some _=>cases u with
  |none=>exact(show False from r).elim
  |some _=>exact r
theorem KV.val{kvs:List (κ×V)}{vs:List (κ×Value)}(r:KV kvs vs)(k:κ):RelO (jV kvs k) (valueAt vs k):=by
 unfold KV at r
 induction r with
 |nil=>exact True.intro
 | @cons p q ps qs h t ih=>
  obtain⟨h1,h2⟩:=h
  by_cases e:p.1=k
  ·have e':q.1=k:=h1.symm.trans e
   have b:valueAt (q::qs) k=some q.2:=by simp[valueAt,List.find?_cons,e']
   rw[ku e,b];exact h2
  ·have e':¬q.1=k:=fun z=>e (h1.trans z)
   have b:valueAt (q::qs) k=valueAt qs k:=by simp[valueAt,List.find?_cons,e']
   rw[kw e,b];exact ih
theorem KV.any{kvs:List (κ×V)}{vs:List (κ×Value)}(r:KV kvs vs)(k:κ):(kvs.any fun kv=>decide (kv.1=k))=vs.any fun kv=>decide (kv.1=k):=by
 unfold KV at r
 induction r with
 |nil=>rfl
 |cons h t ih=>rw[List.any_cons,List.any_cons,ih,h.1]
theorem KV.repl{kvs:List (κ×V)}{vs:List (κ×Value)}(r:KV kvs vs)(k:κ){y:V}{u:Value}(ry:RelV y u):
  KV (kvs.map fun kv=>if kv.1=k then (kv.1,y)else kv) (vs.map fun kv=>if kv.1=k then (kv.1,u)else kv):=by
 unfold KV at r ⊢
 induction r with
 |nil=>exact .nil
 | @cons p q ps qs h t ih=>
  rw[c9,c9]
  refine .cons ?_ ih
  obtain⟨h1,h2⟩:=h
  by_cases e:p.1=k
  ·rw[if_pos e,if_pos (h1.symm.trans e)];exact⟨h1,ry⟩
  ·rw[if_neg e,if_neg (fun z=>e (h1.trans z))];exact⟨h1,h2⟩
theorem KV.put{kvs:List (κ×V)}{vs:List (κ×Value)}(r:KV kvs vs)(k:κ){y:V}{u:Value}(ry:RelV y u):KV (oF kvs k y) (stored vs k u):=by
 unfold oF stored
 rw[r.any k]
 by_cases e:(vs.any fun kv=>decide (kv.1=k))=true
 ·rw[if_pos e,if_pos e];exact r.repl k ry
 ·rw[if_neg e,if_neg e];exact Paired.snoc r ⟨rfl,ry⟩
theorem KV.drop{kvs:List (κ×V)}{vs:List (κ×Value)}(r:KV kvs vs)(k:κ):KV (yB kvs k) (without vs k):=by
 unfold KV at r ⊢
 unfold yB without
 induction r with
 |nil=>exact .nil
 | @cons p q ps qs h t ih=>
  obtain⟨h1,h2⟩:=h
  rw[List.filter_cons,List.filter_cons]
  by_cases e:p.1=k
  ·have a:¬decide (p.1≠k)=true:=by simp[e]
   have b:¬decide (q.1≠k)=true:=by simp[h1.symm.trans e]
   rw[if_neg a,if_neg b];exact ih
  ·have e':¬q.1=k:=fun z=>e (h1.trans z)
   have a:decide (p.1≠k)=true:=by simp[e]
   have b:decide (q.1≠k)=true:=by simp[e']
   rw[if_pos a,if_pos b];exact .cons ⟨h1,h2⟩ ih
theorem KV.keys{kvs:List (κ×V)}{vs:List (κ×Value)}(r:KV kvs vs):kvs.map (·.1)=vs.map (·.1):=by
 unfold KV at r
 induction r with
 |nil=>rfl
 |cons h t ih=>rw[c9,c9,ih,h.1]
theorem KV.length{kvs:List (κ×V)}{vs:List (κ×Value)}(r:KV kvs vs):kvs.length=vs.length:=Paired.length r
end
abbrev KT(H:Hp):List (List cU×V)→List (List cU×Addr×Value)→Prop:=Paired fun p q=>p.1=q.1∧H q.2.1=some (.tup (p.1.map kV))∧RelV p.2 q.2.2
theorem KT.val{H:Hp}{kvs:List (List cU×V)}{xs:List (List cU×Addr×Value)}(r:KT H kvs xs)(k:List cU):RelO (jV kvs k) ((atKey xs k).map (·.2)):=by
 induction r with
 |nil=>exact True.intro
 | @cons p q ps qs h t ih=>
  obtain⟨h1,_,h2⟩:=h
  by_cases e:p.1=k
  ·have e':q.1=k:=h1.symm.trans e
   have b:atKey (q::qs) k=some q.2:=by simp[atKey,List.find?_cons,e']
   rw[ku e,b];exact h2
  ·have e':¬q.1=k:=fun z=>e (h1.trans z)
   have b:atKey (q::qs) k=atKey qs k:=by simp[atKey,List.find?_cons,e']
   rw[kw e,b];exact ih
theorem KT.repl{H:Hp}{kvs:List (List cU×V)}{xs:List (List cU×Addr×Value)}(r:KT H kvs xs)(k:List cU){y:V}{u:Value}(ry:RelV y u):
  KT H (kvs.map fun kv=>if kv.1=k then (kv.1,y)else kv) (xs.map (putAt k u)):=by
 induction r with
 |nil=>exact .nil
 | @cons p q ps qs h t ih=>
  rw[c9,c9]
  refine .cons ?_ ih
  obtain⟨h1,h2,h3⟩:=h
  unfold putAt
  by_cases e:p.1=k
  ·rw[if_pos e,if_pos (h1.symm.trans e)];exact⟨h1,h2,ry⟩
  ·rw[if_neg e,if_neg (fun z=>e (h1.trans z))];exact⟨h1,h2,h3⟩
theorem KT.put{H:Hp}{kvs:List (List cU×V)}{xs:List (List cU×Addr×Value)}(r:KT H kvs xs)(k:List cU){b:Addr}{y:V}{u:Value}(hb:H b=some (.tup (k.map kV)))(ry:RelV y u):
  KT H (oF kvs k y) (storedH xs k b u):=by
 have e:(kvs.any fun kv=>decide (kv.1=k))=(atKey xs k).isSome:=by
  rw[oG,(r.val k).isSome_eq,Option.isSome_map]
 unfold oF storedH
 rw[e]
 by_cases q:(atKey xs k).isSome=true
 ·rw[if_pos q,if_pos q];exact r.repl k ry
 ·rw[if_neg q,if_neg q];exact Paired.snoc r ⟨rfl,hb,ry⟩
theorem KT.keeps{H H':Hp}{kvs:List (List cU×V)}{xs:List (List cU×Addr×Value)}(r:KT H kvs xs)(ht:∀b ys,H b=some (.tup ys)→H' b=some (.tup ys)):KT H' kvs xs:=
 Paired.mapP r fun _ _ z=>⟨z.1,ht _ _ z.2.1,z.2.2⟩
section
variable {P:Program} {w:World} {H:Hp} {h:Heap} {a:Addr}
theorem Br{u:HO}(ok:HOk P w H h)(e:Rd H a u):ObjOk P w H h a u:=e.ok ok
theorem Bs{kvs:List (cU×V)}(ok:HOk P w H h)(e:Rd H a (.dK kvs)):kvs.length≤sizeLine∧(a == sysModules)=false∧∃vs,KV kvs vs∧h.DictOf (j4 P w) a vs:=
 show ObjOk P w H h a (.dK kvs)from Br ok e
end
def DGet(H:Hp)(a:Addr)(y:V)(r:Option V):Prop:=
 (∃kvs k,Rd H a (.dK kvs)∧y=kV k∧r=jV kvs k)∨∃kvs k b,Rd H a (.dT kvs)∧y=.ref b∧H b=some (.tup (k.map kV))∧r=jV kvs k
def DPut(H:Hp)(a:Addr)(y v:V)(H':Hp):Prop:=
 (∃kvs k,H a=some (.dK kvs)∧y=kV k∧kvs.length < sizeLine∧H'=upd H a (.dK (oF kvs k v)))∨
 ∃kvs k b,H a=some (.dT kvs)∧y=.ref b∧H b=some (.tup (k.map kV))∧kvs.length < sizeLine∧H'=upd H a (.dT (oF kvs k v))
theorem DGet.k{H:Hp}{a:Addr}{kvs:List (cU×V)}{k:cU}(e:H a=some (.dK kvs)):DGet H a (kV k) (jV kvs k):=.inl ⟨kvs,k,.inl e,rfl,rfl⟩
theorem DGet.t{H:Hp}{a b:Addr}{kvs:List (List cU×V)}{k:List cU}(e:H a=some (.dT kvs))(eb:H b=some (.tup (k.map kV))):DGet H a (.ref b) (jV kvs k):=.inr ⟨kvs,k,b,.inl e,rfl,eb,rfl⟩
theorem DPut.k{H:Hp}{a:Addr}{kvs:List (cU×V)}{k:cU}{v:V}(e:H a=some (.dK kvs))(hl:kvs.length < sizeLine):DPut H a (kV k) v (upd H a (.dK (oF kvs k v))):=.inl ⟨kvs,k,e,rfl,hl,rfl⟩
theorem DPut.t{H:Hp}{a b:Addr}{kvs:List (List cU×V)}{k:List cU}{v:V}(e:H a=some (.dT kvs))(eb:H b=some (.tup (k.map kV)))(hl:kvs.length < sizeLine):
  DPut H a (.ref b) v (upd H a (.dT (oF kvs k v))):=.inr ⟨kvs,k,b,e,rfl,eb,hl,rfl⟩
section
variable {X:Cx} {pins:List (Addr×Obj)} {σ:St} {H:Hp} {s:Shared} {a:Addr} {y v:V} {u r:Value} {o:Option V} {A:Around} {E:Value→Shared→Prop}
theorem Inv.big(I:Inv X pins σ H s):sysModules < s.heap.objs.size:=by
 have h:mainGlobals < s.heap.objs.size:=(I.mod.glob.keeps I.bk).lt
 exact Nat.lt_trans (by decide) h
end
structure M1 (X:Cx) (o:Expr) (m:Str) (apos:Pos) (e:Expr) (cpos:Pos):Prop where
 base:attributeBase o m X.env (eval o X.env)=eval o X.env
 few:((backTo cpos (starEach [e] X.env)).all (fun x=> !x.1)&&(backToKw cpos (keywordEach [] X.env)).all (fun x=>x.1.isSome)
  &&decide (([e]:List Expr).length+([]:List Keyword).length+(if ([]:List Keyword).isEmpty then 0 else 1) < 30))=true
 line:(apos.endLine == cpos.line)=true
 trees:backTo cpos (starEach [e] X.env)=[(false,eval e X.env)]
end L2
namespace PL
open PySem L2 Nh
theorem oH{X:Cx}{a b:Expr}{m1 m2:Bool}{f g:aO}{pos:Pos}(ha:EX X a m1 f)(hb:EX X b m2 g)(hs:q9 b:=by exact fun _ _=>rfl):EX X (.Subscript a b pos) (m1||m2) (af sN m2 f g):=bv (Bf zp ha hb hs) fun _ _ _ h=>m9 zH h
abbrev zI:=List Sl→Option (Option Int×List Sl)
def ro(K:Frag)(m:Bool)(f:zI):TO:=fun σ H Q=>∃B E xs Xs o E',Frm K B σ H E xs Xs∧(m=true→Calm Xs)∧f E=some (o,E')∧∀H',Frm K B σ H' E' xs Xs→Q o H'
def OX(X:Cx)(e:Option Expr)(m:Bool)(f:zI):Prop:=PO X e (ro X.K m f)
def jK:zI:=fun E=>some (none,E)
def jL(f:aO):zI:=fun E=>(f E).bind fun a=>match look a.2 a.1 with
 |some (.int i)=>some (some i,a.2)
 |_=>none
section
variable {X:Cx} {e:Expr} {lo hi:Option Expr} {m1 m2 m3:Bool} {f:aO} {g h:zI} {pos p2:Pos} {K:Frag}
theorem uS{e:Option Expr}{t t':TO}(h:PO X e t)(k:∀σ H Q,t' σ H Q→t σ H Q):PO X e t':=fun pins s σ H Q I q=>h pins s σ H Q I (k σ H Q q)
theorem xc:OX X none false jK:=uS wK fun σ H Q z=>by
 obtain⟨B,E,xs,Xs,res,E',fr,cl,e,q⟩:=z
 cases e
 exact q _ fr
theorem xg(he:EX X e m1 f):OX X (some e) m1 (jL f):=uS (wM he) fun σ H Q z=>by
 obtain⟨B,E,xs,Xs,res,E',fr,cl,e,q⟩:=z
 obtain⟨⟨s,E1⟩,e1,e⟩:=Za.mp e
 refine⟨B,E,xs,Xs,s,E1,fr,cl,e1,fun v1 H1 ⟨F,A,fr1⟩=>?_⟩
 simp only at e
 split at e
 ·rename_i i l
  cases e
  have r:=(fr1.look0 l).1
  cases r
  obtain⟨A',fr2⟩:=fr1.pop
  exact⟨i,rfl,q _ ⟨F,A',fr2⟩⟩
 ·cases e
theorem RpA.cut{F:Hp}{vs:List V}{ds:List PyData}(h:RpA K F vs ds)(lo hi:Option Int):RpA K F (sI vs lo hi) (qf ds lo hi):=by
 unfold sI qf
 rw[h.len]
 exact(h.drop _).take _
end
def cy(E:List Sl):List Sl→Option (List PyData)
 |[]=>some []
 |s::ss=>(look E s).bind fun d=>(cy E ss).map fun ds=>d::ds
theorem lookA_iff{E:List Sl}:∀{ss:List Sl} {ds:List PyData},cy E ss=some ds↔Paired (fun s d=>look E s=some d) ss ds
 |[],ds=>⟨fun h=>by cases h;exact .nil,fun h=>by cases h;rfl⟩
 |s::ss,ds=>by
  constructor
  ·intro h
   obtain⟨d,h1,h⟩:=Za.mp h
   obtain⟨es,h2,h⟩:=Zab.mp h
   cases h
   exact .cons h1 (lookA_iff.mp h2)
  ·intro h
   cases h with
   |cons h1 h2=>simp[cy,h1,lookA_iff.mpr h2]
theorem sO{E:List Sl}{ss:List Sl}{ds:List PyData}(h:cy E ss=some ds):cy E ss.reverse=some ds.reverse:=lookA_iff.mpr (hE (lookA_iff.mp h))
section
variable {X:Cx} {K:Frag} {B F:Hp} {σ:i8} {H:Hp} {E:List Sl} {xs:List V} {Xs:List Sl}
theorem FrF.looksR:∀{us:List V} {ts:List Sl} {es:List PyData} {A:List Addr},us.length=ts.length→FrF K B F A σ H E (us++xs) (ts++Xs)→cy E ts=some es→RpA K H us es∧∃A',FrF K B F A' σ H E xs Xs
 |[],[],es,A,_,h,e=>by cases e;exact⟨.nil,A,h⟩
 |u::us,t::ts,es,A,hl,h,e=>by
  obtain⟨d,h1,e⟩:=Za.mp e
  obtain⟨es',h2,e⟩:=Zab.mp e
  cases e
  have r:=(FrF.look0 (xs:=us++xs) (Xs:=ts++Xs) h h1).1
  obtain⟨A',h'⟩:=FrF.pop (xs:=us++xs) (Xs:=ts++Xs) h
  obtain⟨r',q⟩:=FrF.looksR (by simpa using hl) h' h2
  exact⟨.cons r r',q⟩
 |[],_::_,_,_,e,_,_=>by cases e
 |_::_,[],_,_,e,_,_=>by cases e
theorem FrF.looks{us:List V}{ts:List Sl}{es:List PyData}{A:List Addr}(hl:us.length=ts.length)(h:FrF K B F A σ H E (us.reverse++xs) (ts.reverse++Xs))(e:cy E ts=some es):RpA K H us es∧∃A',FrF K B F A' σ H E xs Xs:=by
 obtain⟨r,q⟩:=FrF.looksR (by simpa using hl) h (sO e)
 have:=r.rev
 rw[List.reverse_reverse,List.reverse_reverse]at this
 exact⟨this,q⟩
end
def xh(K:Frag)(r:List V→Hp→VK→Prop)(op:List PyData→Option PyData):Prop:=∀(ds:List PyData) (d:PyData) (vs:List V) (H:Hp) (Q:VK),op ds=some d→RpA K H vs ds→∃v,yt d=some v∧(Q v H→r vs H Q)
def bJ(op:List PyData→Option PyData)(g:oz):aO:=fun E=>(g E).bind fun a=>(cy a.2 a.1).bind fun ds=>(op ds).map fun d=>(.sh d,a.2)
theorem uT{K:Frag}{r:List V→Hp→VK→Prop}{op:List PyData→Option PyData}(hp:xh K r op){m:Bool}{g:oz}{σ:i8}{H:Hp}{Q:VK}(h:rd K m (bJ op g) σ H Q):Ci r (ra K m g) σ H Q:=by
 obtain⟨B,E,xs,Xs,res,E',fr,cl,e,q⟩:=h
 obtain⟨⟨rs,E1⟩,e1,e⟩:=Za.mp e
 obtain⟨ds,e2,e⟩:=Za.mp e
 obtain⟨d,e3,e⟩:=Zab.mp e
 cases e
 refine⟨B,E,xs,Xs,rs,E1,fr,cl,e1,fun vs H1 hl ⟨F,A,fr1⟩=>?_⟩
 obtain⟨r1,A',fr2⟩:=fr1.looks hl e2
 obtain⟨v,hv,k⟩:=hp ds d vs H1 Q e3 r1
 exact k (q v H1 ⟨F,A',fr2.push ⟨rfl,v,rfl,ko hv⟩⟩)
def eD:List PyData→Option PyData
 |[.list xs]=>some (.int xs.length)
 |[.tuple xs]=>some (.int xs.length)
 |[.str z]=>if z.length≤1000000 then some (.int z.length)else none
 |_=>none
def sP:List PyData→Option PyData
 |[.int i,.int j]=>some (.int (if j < i then j else i))
 |_=>none
theorem RpA.one{K:Frag}{H:Hp}{vs:List V}{d:PyData}(h:RpA K H vs [d]):∃v,vs=[v]∧Rp K H v d:=by
 cases h with
 |cons h t=>cases t;exact⟨_,rfl,h⟩
theorem RpA.two{K:Frag}{H:Hp}{vs:List V}{d e:PyData}(h:RpA K H vs [d,e]):∃v u,vs=[v,u]∧Rp K H v d∧Rp K H u e:=by
 cases h with
 |cons h t=>
  obtain⟨u,rfl,r⟩:=t.one
  exact⟨_,_,rfl,h,r⟩
section
variable {X:Cx} {e:Expr} {es:List Expr} {m1:Bool} {g:oz} {p pos:Pos} {K:Frag}
abbrev Bt(K:Frag):List V→Hp→VK→Prop:=fun xs H Q=>(∃p ys,xs=[.ref p]∧(SqL K H p ys∨SqT K H p ys)∧Q (.int ys.length) H)∨(∃z,xs=[.str z]∧z.length≤sizeLine∧Q (.int z.length) H)
theorem xi:xh K (Bt K) eD:=fun ds d vs H Q e r=>by
 unfold eD at e
 split at e
 ·cases e
  obtain⟨v,rfl,r'⟩:=r.one
  cases r' with
  |lst h1 h2=>exact⟨_,rfl,fun q=>.inl ⟨_,_,rfl,.inl h1,by rw[h2.len];exact q⟩⟩
 ·cases e
  obtain⟨v,rfl,r'⟩:=r.one
  cases r' with
  |tup h1 h2=>exact⟨_,rfl,fun q=>.inl ⟨_,_,rfl,.inr h1,by rw[h2.len];exact q⟩⟩
 ·split at e
  ·rename_i hl
   cases e
   obtain⟨v,rfl,r'⟩:=r.one
   cases r'
   exact⟨_,rfl,fun q=>.inr ⟨_,rfl,eX hl,q⟩⟩
  ·cases e
 ·cases e
theorem iM {x:Str} {id:String} {r:List V→Hp→VK→Prop} {op:List PyData→Option PyData} (hp:xh X.K r op) (hc:CallR X (.builtin id) r) (hg:Gl X x) (hm:X.mg x=none) (hv:bootBuiltins x=some (.builtin id)) (ha:AX X (e::es) m1 g) (hn:x≠"__name__":=by decide) (hdb:(x == ("__debug__":Str))=false:=by decide)
  (he:starEach (e::es) X.env=(false,eval e X.env)::starEach es X.env:=by rfl) (hpl:(backTo pos (starEach es X.env)).any (·.1)=false:=by rfl):EX X (.Call (.Name x p) (e::es) [] pos) m1 (bJ op g):=
 bv (iF hc hg hm hv ha hn hdb he hpl) fun _ _ _ h=>uT hp h
theorem fT (hg:Gl X "len") (hm:X.mg "len"=none) (ha:AX X [e] m1 g) (he:starEach [e] X.env=[(false,eval e X.env)]:=by rfl):EX X (.Call (.Name "len" p) [e] [] pos) m1 (bJ eD g):=iM xi (CallR.or mX mY) hg hm PySem.boot_len ha (by decide) (by decide) he rfl
theorem zJ {e2:Expr} (hc:X.calm=true) (hg:Gl X "min") (hm:X.mg "min"=none) (ha:AX X [e,e2] m1 g) (he:starEach [e,e2] X.env=(false,eval e X.env)::starEach [e2] X.env:=by rfl) (hpl:(backTo pos (starEach [e2] X.env)).any (·.1)=false:=by rfl):EX X (.Call (.Name "min" p) [e,e2] [] pos) m1 (bJ sP g):=iM (fun ds d vs H Q e r=>by
 unfold sP at e
 split at e
 ·cases e
  obtain⟨v,u,rfl,r',r2⟩:=r.two
  cases r';cases r2
  exact⟨_,rfl,fun q=>⟨_,_,rfl,q⟩⟩
 ·cases e) (sG hc) hg hm PyProof.Rows.boot_min ha (by decide) (by decide) he hpl
end
def c7(g:aO):aO:=fun E=>(g E).bind fun a=>match look a.2 a.1 with
 |some (.list ds)=>if !gR a.2 a.1||bx ds then some (.ow ds,a.2)else none
 |some (.tuple ds)=>if !gR a.2 a.1||bx ds then some (.ow ds,a.2)else none
 |_=>none
section
variable {X:Cx} {e:Expr} {m1:Bool} {f:aO} {p pos:Pos} {K:Frag}
theorem j8 (hg:Gl X "list") (hm:X.mg "list"=none) (ha:EX X e m1 f) (he:starEach [e] X.env=[(false,eval e X.env)]:=by rfl):EX X (.Call (.Name "list" p) [e] [] pos) m1 (c7 f):=by
 refine bv (l7 mZ hg hm PyProof.Rows.boot_list (cV ha eW he) (by decide) (by decide) he rfl) fun σ H Q z=>?_
 obtain⟨B,E,xs,Xs,res,E',fr,cl,e,q⟩:=z
 obtain⟨⟨s,E1⟩,e1,e⟩:=Za.mp e
 refine⟨B,E,xs,Xs,s,E1,fr,cl,e1,fun v1 H1 ⟨F,A,fr1⟩=>?_⟩
 obtain⟨A',fr2⟩:=fr1.pop
 simp only at e
 split at e
 ·rename_i ds ld
  split at e
  ·rename_i hc
   cases e
   obtain⟨a,vs,ev,h1,h2⟩:=fr1.items (k:=0) rfl ld hc
   cases ev
   exact⟨a,vs,rfl,.inl h1,fun l hl=>q _ _ ⟨F,_,fr2.newl h2 hl⟩⟩
  ·cases e
 ·rename_i ds ld
  split at e
  ·rename_i hc
   cases e
   obtain⟨r,f0⟩:=fr1.look0 ld
   cases hh:gR E' s with
   |false=>
    have h0:Rp X.K F v1 _:=f0 hh
    cases h0 with
    |tup h1 h2=>exact⟨_,_,rfl,.inr (fr1.fh.tup h1),fun l hl=>q _ _ ⟨F,_,fr2.newl h2 hl⟩⟩
   |true=>
    rw[hh]at hc
    cases r with
    |tup h1 h2=>exact⟨_,_,rfl,.inr h1,fun l hl=>q _ _ ⟨F,_,fr2.newl (fr1.coldA h2 (by simpa using hc)) hl⟩⟩
  ·cases e
 ·cases e
end
inductive Ty where
 |non |bool |int |str |list |tuple |dict
def Ty.name:Ty→String
 |.non=>"NoneType"
 |.bool=>"bool"
 |.int=>"int"
 |.str=>"str"
 |.list=>"list"
 |.tuple=>"tuple"
 |.dict=>"dict"
def Ty.is:Ty→Ty→Bool
 |.non,.non=>true
 |.bool,.bool=>true
 |.bool,.int=>true
 |.int,.int=>true
 |.str,.str=>true
 |.list,.list=>true
 |.tuple,.tuple=>true
 |.dict,.dict=>true
 |_,_=>false
def yC:PyData→Ty
 |.none=>.non
 |.bool _=>.bool
 |.int _=>.int
 |.str _=>.str
 |.list _=>.list
 |.tuple _=>.tuple
 |.dict _=>.dict
theorem Bu(K:Frag)(t n:Ty):PySem.W.kitOne K (.type t.name) (.type n.name)=some (t.is n):=by cases t <;> cases n <;> rfl
def kz(n:Ty)(d:PyData):Option PyData:=some (.bool ((yC d).is n))
section
variable {X:Cx} {e:Expr} {m1:Bool} {f:aO} {p p2 pos:Pos}
theorem sQ{pins:List (Addr×Obj)}{s:Shared}{σ:i8}{H:Hp}{x:V}{u:Value}{d:PyData}{n:Ty}{A:Around}{E:Value→Shared→Prop}{Q:Value→Shared→Prop}(I:Inv X pins σ H s)(rx:RelV x u)(rp:Rp X.K H x d)(h:∀tk,Q (.bool ((yC d).is n)) {s with toks:=tk}):
  wpAny (model X.prog X.w) A (call (.builtin "isinstance") [u,.type n.name]) Q E s:=by
 have e:=Bu X.K (yC d) n
 cases rp with
 |non=>exact gH I rx .non e h
 |bl b=>exact gH I rx (.bl b) e h
 |int i=>exact gH I rx (.int i) e h
 |str y=>exact gH I rx (.str y) e h
 |lst h1 _=>
  cases rx
  obtain⟨its,rv,⟨o,n',e1,c,_,d⟩,_⟩:=I.list h1
  exact kia_one kitx_list I.kIn ⟨_,e1,c⟩ e (fun z=>nomatch z) h
 |tup h1 _=>
  cases rx
  obtain⟨its,rv,⟨o,e1,c,n',d⟩,_⟩:=I.tuple h1
  exact kia_one PySem.W.kitx_tuple I.kIn ⟨_,e1,c⟩ e (fun z=>nomatch z) h
 |dct h1 _=>
  cases rx
  obtain⟨_,_,vs,_,ob,es,ep,e1,c,_⟩:=Bs I.hok h1
  exact kia_one kitx_dict I.kIn ⟨_,e1,c.1⟩ e (fun z=>nomatch z) h
theorem sR(n:Ty):CallR X (.builtin "isinstance") (fun xs H Q=>∃x d,xs=[x,.ty n.name]∧Rp X.K H x d∧Q (.bl ((yC d).is n)) H):=by
 intro pins s σ H xs us Q I r h
 obtain⟨x,d,rfl,rp,q⟩:=h
 obtain⟨u,w',rfl,ru,rw'⟩:=r.two
 cases(show w'=Value.type n.name from rw')
 exact sQ I ru rp fun tk=>⟨.bl _,H,I.tok _,rfl,q⟩
theorem ni (n:Ty) (hg:Gl X "isinstance") (hm:X.mg "isinstance"=none) (ha:EX X e m1 f) {x:Str} (hgx:Gl X x) (hmx:X.mg x=none) (hbx:bootBuiltins x=some (.type n.name)) (hnx:x≠"__name__":=by decide) (hdx:(x == ("__debug__":Str))=false:=by decide)
  (he:starEach [e,.Name x p2] X.env=(false,eval e X.env)::starEach [.Name x p2] X.env:=by rfl) (he2:starEach [.Name x p2] X.env=[(false,eval (.Name x p2) X.env)]:=by rfl) (hpl:(backTo pos (starEach [.Name x p2] X.env)).any (·.1)=false:=by rfl):
  EX X (.Call (.Name "isinstance" p) [e,.Name x p2] [] pos) m1 (lD (kz n) f):=by
 have h2:PE X (.Name x p2) (tC (.ty n.name)):=wv (v:=.ty n.name) hgx hmx hbx rfl hnx hdx
 refine bv (iF (sR n) hg hm PyProof.Rows.boot_isinstance (cV ha (cV h2 eW he2) he) (by decide) (by decide) he hpl) fun σ H Q z=>?_
 obtain⟨B,E,xs,Xs,res,E',fr,cl,e,q⟩:=z
 obtain⟨⟨s,E1⟩,e1,e⟩:=Za.mp e
 obtain⟨d1,e2,e⟩:=Za.mp e
 cases e
 refine⟨B,E,xs,Xs,s,E1,fr,cl,e1,fun v1 H1 ⟨F,A,fr1⟩=>?_⟩
 obtain⟨A',fr2⟩:=fr1.pop
 exact⟨v1,d1,rfl,(fr1.look0 e2).1,q _ _ ⟨F,A',fr2.push ⟨rfl,_,rfl,.bl _⟩⟩⟩
end
end PL
namespace PL
open PySem L2 Nh
def rq(K:Frag)(H H':Hp)(v:V):Sl→Prop
 |.sh d=>Rp K (tups H') v d
 |.ow ds=>∃l vs,v=.ref l∧H l=none∧H' l=some (.lst vs)∧RpA K (tups H') vs ds
 |.tx ps=>∃t vs A,v=.ref t∧tups H' t=some (.tup vs)∧A.Nodup∧(∀a∈A,H a=none)∧PtsOk K (tups H') H' vs ps A
 |.od kvs=>∃l us A,v=.ref l∧(l::A).Nodup∧(∀a∈l::A,H a=none)∧H' l=some (.dK us)∧DlOk K (tups H') H' us kvs A
 |.br d=>Rp K H' v d
 |_=>False
def dD(K:Frag)(c:List PyData→Option Sl):Sp:=fun vs H Q _=>∃ds r,c ds=some r∧RpA K H vs ds∧∀v H',Same H H'→rq K H H' v r→Q v H'
section
variable {K:Frag} {B F:Hp} {A N:List Addr} {σ:i8} {H H':Hp} {E:List Sl} {xs:List V} {Xs:List Sl} {v:V} {s:Sl}
theorem FrF.growN(h:FrF K B F A σ H E xs Xs)(g:Same H H')(hN:∀a∈N,H a=none∧((∃us,H' a=some (.lst us))∨∃us,H' a=some (.dK us))):FrF K B (fun b=>if b∈N then none else if b∈A then none else H' b) A σ H' E xs Xs:=by
 have h1:=h.grow g
 have nF:∀b o,F b=some o→b∉N:=fun b o e hb=>by
  have:=h.fh.free (hN b hb).1
  rw[this]at e;cases e
 have FF:Same F (fun b=>if b∈N then none else if b∈A then none else H' b):=fun b o e=>by
  have nA:b∉A:=fun hb=>by rw[h.fr b hb]at e;cases e
  show(if b∈N then none else if b∈A then none else H' b)=some o
  rw[if_neg (nF b o e),if_neg nA]
  exact g _ _ (h.fh _ _ e)
 have hA:∀b∈A,H' b=H b:=fun b hb=>by
  rcases h.mutA b hb with⟨_,z⟩ |⟨_,z⟩ <;> rw[z,g _ _ z]
 refine⟨h.bf.trans FF,fun b o e=>?_,fun b o e=>?_,h.sl.mono fun o s C _ hC q=>q.stay FF (fun b hb=>hA b (hC b hb)) fun _=>g,h.nd,fun a ha=>?_,h.len,h.pl⟩
 ·by_cases hb:b∈N
  ·rw[if_pos hb]at e;cases e
  ·rw[if_neg hb]at e;exact h1.fh _ _ e
 ·show(if b∈N then none else if b∈A then none else H' b)=some o
  by_cases hb:b∈N
  ·obtain⟨e1,e2⟩:=Option.filter_eq_some_iff.mp e
   rcases(hN b hb).2 with⟨us,z⟩ |⟨us,z⟩ <;> rw[z]at e1 <;> cases e1 <;> cases e2
  ·rw[if_neg hb];exact h1.tf _ _ e
 ·show(if a∈N then none else if a∈A then none else H' a)=none
  by_cases hb:a∈N
  ·rw[if_pos hb]
  ·rw[if_neg hb,if_pos ha]
theorem FrF.pushR(h:FrF K B F A σ H E xs Xs)(q:SlOk K F H σ (some v) s N)(nd:N.Nodup)(dj:∀a∈N,a∉A)(fr:∀a∈N,F a=none):FrF K B F (N++A) σ H E (v::xs) (s::Xs):=
 ⟨h.bf,h.fh,h.tf,.cons q h.sl,Zba.mpr ⟨nd,h.nd,fun a ha b hb e=>dj a ha (e▸hb)⟩,fun a ha=>(Zao.mp ha).elim (fr a) (h.fr a),by simp[h.len],h.pl⟩
theorem FrF.told(h:FrF K B F A σ H E xs Xs)(g:Same H H')(q:rq K H H' v s):Frm K B σ H' E (v::xs) (s::Xs):=by
 cases s with
 |sh d=>
  have h1:=h.grow g
  exact⟨_,_,h1.push ⟨rfl,v,rfl,Rp.same h1.tf q⟩⟩
 |ow ds=>
  obtain⟨l,vs,rfl,hl,hl',r⟩:=q
  have h1:=h.growN (N:=[l]) g fun a ha=>by rw[Zaf.mp ha];exact⟨hl,.inl ⟨vs,hl'⟩⟩
  exact⟨_,_,h1.pushR (N:=[l]) ⟨l,vs,rfl,rfl,hl',r.same h1.tf⟩ (by simp) (fun a ha=>by rw[Zaf.mp ha];exact h.newA hl) fun a ha=>if_pos ha⟩
 |tx ps=>
  obtain⟨t,vs,N,rfl,ht,nd,hN,r⟩:=q
  have h1:=h.growN (N:=N) g fun a ha=>⟨hN a ha,.inl (r.some a ha)⟩
  exact⟨_,_,h1.pushR (N:=N) ⟨t,vs,rfl,h1.tf _ _ ht,r.stay h1.tf fun _ _=>rfl⟩ nd (fun a ha=>h.newA (hN a ha)) fun a ha=>if_pos ha⟩
 |no=>exact False.elim q
 |oi kvs=>exact False.elim q
 |od kvs=>
  obtain⟨l,us,N,rfl,nd,hN,hl,r⟩:=q
  have h1:=h.growN (N:=l::N) g fun a ha=>⟨hN a ha,(Zap.mp ha).elim (fun z=>.inr ⟨us,z▸hl⟩) fun z=>.inl (r.some a z)⟩
  exact⟨_,_,h1.pushR (N:=l::N) ⟨l,us,N,rfl,rfl,hl,r.stay h1.tf fun _ _=>rfl⟩ nd (fun a ha=>h.newA (hN a ha)) fun a ha=>if_pos ha⟩
 |al i=>exact False.elim q
 |br d=>
  have h1:=h.grow g
  exact⟨_,_,h1.push ⟨rfl,v,rfl,q⟩⟩
end
def aj(c:List PyData→Option Sl)(g:oz):aO:=fun E=>(g E).bind fun a=>(cy a.2 a.1).bind fun ds=>(c ds).map fun r=>(r,a.2)
theorem aQ{X:Cx}{k:Nat}{x:Str}{ps:List Str}{c:List PyData→Option Sl}{p pos:Pos}{e:Expr}{es:List Expr}{m:Bool}{g:oz}(D:Own X.prog X.w X.K X.mg X.base k x ps (dD X.K c))(hr:Room k X.A)(hg:Gl X x)(ha:AX X (e::es) m g)
  (hdb:(x == ("__debug__":Str))=false:=by decide) (he:starEach (e::es) X.env=(false,eval e X.env)::starEach es X.env:=by rfl) (hpl:(backTo pos (starEach es X.env)).any (·.1)=false:=by rfl):
  EX X (.Call (.Name x p) (e::es) [] pos) m (aj c g):=by
 refine bv (zv D hr hg ha hdb he hpl) fun σ H Q z=>?_
 obtain⟨B,E,xs,Xs,res,E',fr,cl,e,q⟩:=z
 obtain⟨⟨rs,E1⟩,e1,e⟩:=Za.mp e
 obtain⟨ds,e2,e⟩:=Za.mp e
 obtain⟨r,e3,e⟩:=Zab.mp e
 cases e
 refine⟨B,E,xs,Xs,rs,E1,fr,cl,e1,fun vs H1 hl ⟨F,A,fr1⟩=>?_⟩
 obtain⟨r1,A',fr2⟩:=fr1.looks hl e2
 exact⟨ds,res,e3,by rw[List.append_nil];exact r1,fun v H' g q'=>q v H' (fr2.told g q')⟩
def dh(i:Nat)(f:aO):aO:=fun E=>match E[i]? with
 |some (.ow _)=>(f E).bind fun a=>(frz a.2 a.1).bind fun b=>match b.2[i]? with
  |some (.ow ds)=>if ds.length < 1000000 then some (.sh .none,b.2.set i (.ow (ds++[b.1])))else none
  |_=>none
 |_=>none
section
variable {X:Cx} {e:Expr} {m1:Bool} {f:aO} {x:Str} {p apos cpos:Pos}
theorem jg (i:Nat) (he:EX X e m1 f) (hN:X.N[i]? =some x:=by rfl) (hv:wu X.env.scope x:=by first |exact Or.inl rfl |exact Or.inr (Or.inl rfl) |exact Or.inr (Or.inr rfl)) (hd:(x == ("__debug__":Str))=false:=by decide) (hcd:(x == ("__classdict__":Str))=false:=by decide)
  (hs:starEach [e] X.env=[(false,eval e X.env)]:=by rfl) (hbase:attributeBase (.Name x p) "append" X.env (eval (.Name x p) X.env)=eval (.Name x p) X.env:=by rfl)
  (hfew:((backTo cpos (starEach [e] X.env)).all (fun x=> !x.1)&&(backToKw cpos (keywordEach [] X.env)).all (fun x=>x.1.isSome)
   &&decide (([e]:List Expr).length+([]:List Keyword).length+(if ([]:List Keyword).isEmpty then 0 else 1) < 30))=true:=by rfl) (hline:(apos.endLine == cpos.line)=true:=by rfl):
  EX X (.Call (.Attribute (.Name x p) "append" apos) [e] [] cpos) true (dh i f):=by
 refine bv (yp PySem.F.plainAttrs_list PySem.F.slot_list_append PySem.F.type_list_append ja (pX hN hv hd hcd) (cV he eW hs) hbase hfew hline hs rfl) fun σ H Q z=>?_
 obtain⟨B,E,xs,Xs,res,E',⟨F,A,fr⟩,cl,e,q⟩:=z
 unfold dh at e
 split at e
 ·rename_i ds0 ei
  obtain⟨⟨s,E1⟩,e1,e⟩:=Za.mp e
  obtain⟨⟨d,E2⟩,e2,e⟩:=Za.mp e
  simp only at e
  split at e
  ·rename_i ds ei2
   split at e
   ·rename_i hl
    cases e
    obtain⟨o,A1,eo,l,vs,rfl,rfl,hl0,_⟩:=fr.var ei
    refine⟨_,eo,.inl ⟨rfl,_,SqL.of hl0⟩,B,E,xs,Xs,s,E1,⟨F,A,fr⟩,fun _=>cl rfl,e1,fun v H1 ⟨F1,A1,fr1⟩=>?_⟩
    obtain⟨F2,A2,fr2⟩:=fr1.frz0 e2
    obtain⟨v',A3,ev,rfl,w,ew,rv⟩:=fr2.ext (k:=0) rfl
    cases ev;cases ew
    obtain⟨A4,fr3⟩:=fr2.pop
    obtain⟨l',vs',eo',hl',r',put⟩:=fr3.mut ei2 (cl rfl)
    rw[eo]at eo'
    cases eo'
    have ll:=r'.len
    have fr4:=put (vs'++[v]) (ds++[d]) (r'.snoc rv)
    exact⟨l,vs',v,rfl,rfl,hl',small (by omega),q _ _ ⟨_,_,fr4.push ⟨rfl,_,rfl,.non⟩⟩⟩
   ·cases e
  ·cases e
 ·cases e
end
def uU(s:Sl):Sl:=match s.val with
 |some d=>.sh d
 |none=>.no
def frzAll(E:List Sl):List Sl:=E.map uU
def settle(E:List Sl):Sl→Option (Sl×List Sl)
 |.al i=>(frz E (.al i)).map fun a=>(.sh a.1,a.2)
 |.br d=>if cE d then some (.sh d,E)else some (.sh d,frzAll E)
 |s=>some (s,E)
def aX(g h:cR):cR:=fun E=>(g E).bind fun a=>match a.2 with
 |.nx=>h a.1
 |fl=>some (a.1,fl)
def bK:cR:=fun E=>some (E,.nx)
def fk(f:aO):cR:=fun E=>(f E).map fun a=>(a.2,.nx)
def bq(f:aO):cR:=fun E=>(f E).bind fun a=>match a.1 with
 |.al i=>(a.2[i]?).map fun s=>(a.2.set i .no,.rt s)
 |s=>some (a.2,.rt s)
def cF(c:gh)(g h:cR):cR:=fun E=>(c E).bind fun a=>if a.1 then g a.2 else h a.2
def aL(i:Nat)(f:aO):cR:=fun E=>(f E).bind fun a=>(settle a.2 a.1).bind fun b=>if i < b.2.length then some (b.2.set i b.1,.nx)else none
section
variable {K:Frag} {B F:Hp} {A:List Addr} {σ:i8} {H:Hp} {E E':List Sl} {xs:List V} {Xs:List Sl} {v:V} {s s':Sl} {d:PyData}
theorem FrF.frzAll(h:FrF K B F A σ H E xs Xs)(hX:Xs=[]):FrF K B H [] σ H (PL.frzAll E) [] []:=by
 subst hX
 have hx:xs=[]:=by simpa using h.len
 subst hx
 refine⟨h.bf.trans h.fh,Same.refl _,jb H,?_,List.nodup_nil,fun a ha=>(by cases ha),rfl,fun s hs=>?_⟩
 ·have key:∀{os:List (Option V)} {ss:List Sl} {C:List Addr},SAll (SlOk K F H σ) os ss C→SAll (SlOk K H H σ) os (PL.frzAll ss) []:=fun {os ss C} r=>by
   induction r with
   |nil=>exact .nil
   |cons q _ ih=>
    refine .cons (A:=[]) ?_ ih
    unfold uU
    split
    ·rename_i d e
     obtain⟨v,rfl,r,_⟩:=q.val h.fh e
     exact⟨rfl,v,rfl,r⟩
    ·exact rfl
  exact key h.sl
 ·obtain⟨t,_,rfl⟩:=List.mem_map.mp hs
  unfold uU
  split <;> rfl
theorem FrF.settle(h:FrF K B F A σ H E (v::xs) (s::Xs))(hX:Xs=[])(q:PL.settle E s=some (s',E')):s'.isAl=false∧Frm K B σ H E' (v::xs) (s'::Xs):=by
 cases s with
 |al i=>
  obtain⟨⟨d,E2⟩,e,z⟩:=Zab.mp (show(frz E (.al i)).map (fun a=>(Sl.sh a.1,a.2))=some (s',E')from q)
  cases z
  obtain⟨F',A',h'⟩:=h.frz0 e
  exact⟨rfl,F',A',h'⟩
 |br d=>
  have r:=(h.look0 (d:=d) rfl).1
  obtain⟨A',h'⟩:=h.pop
  simp only[PL.settle]at q
  split at q
  ·rename_i hf
   cases q
   exact⟨rfl,F,A',h'.push ⟨rfl,v,rfl,h.cold r hf⟩⟩
  ·cases q
   have h2:=h'.frzAll hX
   have hl:=h'.len
   subst hX
   have hx:xs=[]:=by simpa using hl
   subst hx
   exact⟨rfl,H,[],h2.push ⟨rfl,v,rfl,r⟩⟩
 |no=>cases q;exact⟨rfl,F,A,h⟩
 |sh d=>cases q;exact⟨rfl,F,A,h⟩
 |ow ds=>cases q;exact⟨rfl,F,A,h⟩
 |od kvs=>cases q;exact⟨rfl,F,A,h⟩
 |oi kvs=>cases q;exact⟨rfl,F,A,h⟩
 |tx ps=>cases q;exact⟨rfl,F,A,h⟩
theorem FrF.move{i:Nat}(h:FrF K B F A σ H E (v::xs) (.al i::Xs))(e:E[i]? =some s):Frm K B σ H (E.set i .no) (v::xs) (s::Xs):=by
 obtain⟨v',A1,ev,rfl,w,ew,hw⟩:=h.ext (k:=0) rfl
 cases ev;cases ew
 obtain⟨A',h'⟩:=h.pop
 obtain⟨o,A0,A1,A2,eA,eo,hp,put⟩:=h'.sl.at (k:=Xs.length+i) (s:=s) (by rw[Zb (by omega)];simpa using e)
 have z:=put (SlOk K F H σ) o .no [] rfl fun _ _ _ _ _ q=>q
 have e3:(Xs++E).set (Xs.length+i) .no=Xs++E.set i .no:=by
  rw[List.set_append_right _ _ (by omega),ug]
 have e2:(List.map some xs++σ).set (Xs.length+i) o=List.map some xs++σ:=List.ext_getElem? fun j=>by
  by_cases hj:Xs.length+i=j
  ·subst hj
   rw[List.getElem?_set_self',eo];rfl
  ·rw[List.getElem?_set_ne hj]
 rw[e2,e3]at z
 rw[Zb (by rw[dv,h'.len];omega),dv,h'.len,ug,hw]at eo
 cases eo
 have nd:=h'.nd
 rw[eA]at nd
 refine⟨F,A1++(A0++([]++A2)),h.bf,h.fh,h.tf,.cons hp z,?_,fun a ha=>h'.fr a ?_,h.len,fun s' hs=>?_⟩
 ·have p:(A1++(A0++([]++A2))).Perm (A0++(A1++A2)):=by
   rw[List.nil_append,←lA,←lA]
   exact List.Perm.append_right _ List.perm_append_comm
  exact p.nodup_iff.mpr nd
 ·rw[eA]
  simp only[Zao,Z8]at ha ⊢
  rcases ha with z |z |z
  ·exact .inr (.inl z)
  ·exact .inl z
  ·exact .inr (.inr z)
 ·rcases List.mem_or_eq_of_mem_set hs with hs |hs
  ·exact h.pl s' hs
  ·subst hs;rfl
end
section
variable {X:Cx} {st:Stmt} {aA a b:List Stmt} {g h:cR} {e c:Expr} {m:Bool} {f:aO} {t:gh} {pos:Pos}
theorem cf:rh X [] bK:=rj wx fun D σ H z=>by
 obtain⟨B,E,xs,Xs,E',fl,fr,cl,e,q⟩:=z
 cases e
 exact q _ _ fr
theorem ao(h1:SX X st g):rh X [st] g:=wy h1
theorem qg{K:Frag}{D:Ends}{σ:i8}{H:Hp}(z:rs K (aX g h) D σ H):rs K g {D with nx:=rs K h D} σ H:=by
 obtain⟨B,E,xs,Xs,E',fl,fr,cl,e,q⟩:=z
 obtain⟨⟨E1,f1⟩,e1,e⟩:=Za.mp e
 refine⟨B,E,xs,Xs,E1,f1,fr,cl,e1,?_⟩
 cases f1 with
 |nx=>exact fun σ' H' fr'=>⟨B,E1,xs,Xs,E',fl,fr',cl,e,q⟩
 |bk=>cases e;exact q
 |ct=>cases e;exact q
 |rt r=>cases e;exact q
theorem aq(h1:SX X st g)(h2:rh X aA h):rh X (st::aA) (aX g h):=rj (ul h1 h2) fun D σ H z=>qg z
theorem j9(he:EX X e m f)(hs:swapsWith e none pos.line X.env=pure false:=by rfl):SX X (.Expr e pos) (fk f):=hJ (wz he hs) fun D σ H z=>by
 obtain⟨B,E,xs,Xs,E',fl,fr,cl,e,q⟩:=z
 obtain⟨⟨s,E1⟩,e1,e⟩:=Zab.mp e
 cases e
 refine⟨B,E,xs,Xs,s,E1,fr,fun _=>Calm.nil cl,e1,fun v H1 ⟨F,A,fr1⟩=>?_⟩
 obtain⟨A',fr2⟩:=fr1.pop
 exact q _ _ ⟨F,A',fr2⟩
theorem ba(he:EX X e m f):SX X (.Return (some e) pos) (bq f):=hJ (yY he) fun D σ H z=>by
 obtain⟨B,E,xs,Xs,E',fl,fr,cl,e,q⟩:=z
 obtain⟨⟨s,E1⟩,e1,e⟩:=Za.mp e
 refine⟨B,E,xs,Xs,s,E1,fr,fun _=>Calm.nil cl,e1,fun v H1 ⟨F,A,fr1⟩=>?_⟩
 simp only at e
 split at e
 ·obtain⟨s',es,e⟩:=Zab.mp e
  cases e
  exact q σ _ _ (fr1.move es)
 ·cases e
  exact q σ _ _ ⟨F,A,fr1⟩
theorem fm(hc:TX X c m t)(ha:rh X a g)(hb:rh X b h):SX X (.If c a b pos) (cF t g h):=hJ (AT hc ha hb) fun D σ H z=>by
 obtain⟨B,E,xs,Xs,E',fl,fr,cl,e,q⟩:=z
 obtain⟨⟨b1,E1⟩,e1,e⟩:=Za.mp e
 refine⟨B,E,xs,Xs,b1,E1,fr,fun _=>Calm.nil cl,e1,fun H1 fr1=>?_⟩
 cases b1 with
 |true=>exact(if_pos rfl).mpr ⟨B,E1,xs,Xs,E',fl,fr1,cl,e,q⟩
 |false=>exact(if_neg (by decide)).mpr ⟨B,E1,xs,Xs,E',fl,fr1,cl,e,q⟩
theorem aS(i:Nat){x:Str}{pos':Pos}(hN:X.N.Nodup)(he:EX X e m f)(hi:X.N[i]? =some x:=by rfl)(hx:yR X.env.scope x:=by first |exact Or.inl rfl |exact Or.inr rfl)(hs:swapsWith e (some (.Name x pos')) pos.line X.env=pure false:=by rfl)(hf:X.fn x=true∨X.env.scope.names.lookup x=some .local:=by first |exact .inl rfl |exact .inr rfl |assumption):
  SX X (.Assign [.Name x pos'] e pos) (aL i f):=hJ (y9 hN hi hx he hs hf) fun D σ H z=>by
 obtain⟨B,E,xs,Xs,E',fl,fr,cl,e,q⟩:=z
 obtain⟨⟨s,E1⟩,e1,e⟩:=Za.mp e
 obtain⟨⟨s',E2⟩,e2,e⟩:=Za.mp e
 refine⟨B,E,xs,Xs,s,E1,fr,fun _=>Calm.nil cl,e1,fun v H1 ⟨F,A,fr1⟩=>?_⟩
 obtain⟨c1,F2,A2,fr2⟩:=fr1.settle cl e2
 simp only at e
 split at e
 ·rename_i hi
  cases e
  obtain⟨A3,fr3⟩:=fr2.store c1 (Still.nil cl) hi
  exact q _ _ ⟨F2,A3,fr3⟩
 ·cases e
end
end PL
namespace PL
open PySem L2 Nh
abbrev gb:=PyData→List Sl→Option (List Sl)
def rg(K:Frag)(h:gb):TG:=fun v σ H Q=>∃B E xs Xs d E',Frm K B σ H E (v::xs) (.sh d::Xs)∧Still Xs∧h d E=some E'∧∀σ' H',Frm K B σ' H' E' xs Xs→Q σ' H'
def GX(X:Cx)(e:Expr)(h:gb):Prop:=PG X e (rg X.K h)
def aF(i:Nat):gb:=fun d E=>if i < E.length then some (E.set i (.sh d))else none
section
variable {X:Cx}
theorem zK{e:Expr}{t t':TG}(h:PG X e t)(k:∀v σ H Q,t' v σ H Q→t v σ H Q):PG X e t':=fun pins s σ H v u Q I r q=>h pins s σ H v u Q I r (k v σ H Q q)
theorem bI(i:Nat){x:Str}{pos:Pos}(hN:X.N.Nodup)(hi:X.N[i]? =some x:=by rfl)(hx:yR X.env.scope x:=by first |exact Or.inl rfl |exact Or.inr rfl)(hf:X.fn x=true∨X.env.scope.names.lookup x=some .local:=by first |exact .inl rfl |exact .inr rfl |assumption):GX X (.Name x pos) (aF i):=zK (mS hN hi hx hf) fun v σ H Q z=>by
 obtain⟨B,E,xs,Xs,d,E',⟨F,A,fr⟩,cl,e,q⟩:=z
 unfold aF at e
 split at e
 ·rename_i hi
  cases e
  obtain⟨A',fr'⟩:=fr.store rfl cl hi
  exact q _ _ ⟨F,A',fr'⟩
 ·cases e
end
def qh(K:Frag)(B0:Hp)(J:It)(ds:List PyData):Prop:=∀{B F:Hp} {A:List Addr} {σ:i8} {H:Hp} {E:List Sl} {xs:List V} {Xs:List Sl} (i:Nat),Same B0 B→FrF K B F A σ H E xs Xs→
 (∀d,ds[i]? =some d→J.go i H∧∀x H2,J.yld i H x H2→Frm K B σ H2 E (x::xs) (.sh d::Xs))∧(i=ds.length→J.stop i H)
def ri(K:Frag)(m:Bool)(f:iJ):TI:=fun σ H R=>∃B E xs Xs ds E',Frm K B σ H E xs Xs∧(m=true→Calm Xs)∧f E=some (ds,E')∧∀B' J H',Same B B'→Frm K B' σ H' E' xs Xs→qh K B' J ds→R J H'
def IX(X:Cx)(tg e:Expr)(m:Bool)(f:iJ):Prop:=PI X tg e (ri X.K m f)
theorem FrF.base{K:Frag}{B B' F:Hp}{A:List Addr}{σ:i8}{H:Hp}{E:List Sl}{xs:List V}{Xs:List Sl}(h:FrF K B' F A σ H E xs Xs)(s:Same B B'):FrF K B F A σ H E xs Xs:=⟨s.trans h.bf,h.fh,h.tf,h.sl,h.nd,h.fr,h.len,h.pl⟩
theorem Frm.base{K:Frag}{B B':Hp}{σ:i8}{H:Hp}{E:List Sl}{xs:List V}{Xs:List Sl}(h:Frm K B' σ H E xs Xs)(s:Same B B'):Frm K B σ H E xs Xs:=let ⟨F,A,h⟩:=h;⟨F,A,h.base s⟩
theorem FrF.raise{K:Frag}{B F:Hp}{A:List Addr}{σ:i8}{H:Hp}{E:List Sl}{xs:List V}{Xs:List Sl}(h:FrF K B F A σ H E xs Xs):FrF K F F A σ H E xs Xs:=⟨Same.refl _,h.fh,h.tf,h.sl,h.nd,h.fr,h.len,h.pl⟩
def iN(lo:Int)(n:Nat):List PyData:=(List.range n).map fun(k:Nat)=>.int (lo+(k:Int))
def eG(g:oz):iJ:=fun E=>(g E).bind fun a=>match cy a.2 a.1 with
 |some [.int j]=>if -1000000≤j∧j≤1000000 then some (iN 0 j.toNat,a.2)else none
 |_=>none
section
variable {X:Cx} {tg e e2:Expr} {m:Bool} {f:aO} {g:oz} {p pos:Pos} {K:Frag} {B:Hp}
theorem qi{t t':TI}(h:PI X tg e t)(k:∀σ H Q,t' σ H Q→t σ H Q):PI X tg e t':=fun pins s σ H R I q=>h pins s σ H R I (k σ H R q)
theorem jh{a:Addr}{vs:List V}{ds:List PyData}(h:SqL K B a vs)(r:RpA K B vs ds):qh K B (Ca K a) ds:=fun {B' F A σ H E xs Xs} i sB fr=>by
 have hH:=fr.fh.seq (fr.bf.seq (sB.seq h))
 refine⟨fun d ed=>?_,fun e=>⟨vs,hH,by rw[e,r.len];exact dw _⟩⟩
 obtain⟨v,ev,rv⟩:=r.get ed
 refine⟨⟨vs,v,hH,ev⟩,fun x H2 ⟨e2,y⟩=>?_⟩
 subst e2
 have:=y vs hH
 rw[ev]at this
 cases this
 exact⟨F,A,fr.push ⟨rfl,_,rfl,rv.same (sB.trans fr.bf)⟩⟩
theorem qj{lo:Int}{n:Nat}:qh K B (BZ lo n) (iN lo n):=fun {B' F A σ H E xs Xs} i sB fr=>by
 have hl:(iN lo n).length=n:=by simp[iN]
 refine⟨fun d ed=>?_,fun e=>?_⟩
 ·have hi:i < n:=by have:=(List.getElem?_eq_some_iff.mp ed).1;omega
  refine⟨hi,fun x H2 ⟨e2,y⟩=>?_⟩
  subst e2 y
  have:d=.int (lo+i):=by
   unfold iN at ed
   rw[qT,List.getElem?_range hi]at ed
   exact(Option.some.inj ed).symm
  subst this
  exact⟨F,A,fr.push ⟨rfl,_,rfl,.int _⟩⟩
 ·show n≤i
  omega
theorem ji (hg:Gl X "range") (hm:X.mg "range"=none) (ha:AX X [e] m g) (hs:starEach [e] X.env=[(false,eval e X.env)]:=by rfl):IX X tg (.Call (.Name "range" p) [e] [] pos) m (eG g):=qi (sx hg hm ha hs) fun σ H R z=>by
 obtain⟨B,E,xs,Xs,ds,E',fr,cl,e,q⟩:=z
 obtain⟨⟨rs,E1⟩,e1,e⟩:=Za.mp e
 refine⟨B,E,xs,Xs,rs,E1,fr,cl,e1,fun vs H1 hl ⟨F,A,fr1⟩=>?_⟩
 simp only at e
 split at e
 ·rename_i j ld
  split at e
  ·rename_i hj
   cases e
   obtain⟨r,A',fr2⟩:=fr1.looks hl ld
   obtain⟨v,rfl,r'⟩:=r.one
   cases r'
   exact⟨j,rfl,by omega,by omega,q B _ _ (Same.refl _) ⟨F,A',fr2⟩ qj⟩
  ·cases e
 ·cases e
end
def bL(tg:gb)(body:cR):List PyData→cR
 |[],E=>some (E,.nx)
 |d::ds,E=>((tg d E).bind body).bind fun a=>match a.2 with
  |.nx=>bL tg body ds a.1
  |.ct=>bL tg body ds a.1
  |.bk=>some (a.1,.nx)
  |.rt r=>some (a.1,.rt r)
def de(it:iJ)(tg:gb)(body:cR):cR:=fun E=>(it E).bind fun a=>bL tg body a.1 a.2
theorem h9{X:Cx}{tg iter:Expr}{body:List Stmt}{m:Bool}{it:iJ}{g:gb}{b:cR}{pos:Pos}(hp:PassesOwn (model X.prog X.w) X.A X.env X.xe)(hc:X.calm=true)(hi:IX X tg iter m it)(hg:GX X tg g)(hb:rh X body b)
  (hs:∀x,foldedSetIterable iter X.env x=pure x:=by intro _;rfl):SX X (.For tg iter body [] pos) (de it g b):=hJ (za hp hc hi hg hb hs) fun D σ H z=>by
 obtain⟨B,E,xs,Xs,E',fl,fr,cl,e,q⟩:=z
 obtain⟨⟨ds,E1⟩,e1,e⟩:=Za.mp e
 refine⟨B,E,xs,Xs,ds,E1,fr,fun _=>Calm.nil cl,e1,fun B' J H1 hB fr1 ok=>?_⟩
 refine⟨fun i mm σ' H'=>mm=ds.length - i∧i≤ds.length∧∃Ei,bL g b (ds.drop i) Ei=some (E',fl)∧Frm X.K B' σ' H' Ei xs Xs,⟨ds.length,by simp,Nat.zero_le _,E1,by simpa using e,fr1⟩,?_⟩
 rintro i mm σ' H' ⟨rfl,hi,Ei,ei,F,A,fri⟩
 obtain⟨go,stop⟩:=ok i (Same.refl _) fri
 by_cases hlt:i < ds.length
 ·obtain⟨d,ed⟩:∃d,ds[i]? =some d:=⟨ds[i],pS hlt⟩
  obtain⟨g1,yl⟩:=go d ed
  have edr:ds.drop i=d::ds.drop (i+1):=by
   rw[List.drop_eq_getElem_cons hlt]
   congr 1
   exact Option.some.inj ((pS hlt).symm.trans ed)
  rw[edr]at ei
  obtain⟨⟨E2,f2⟩,e2,ei⟩:=Za.mp ei
  obtain⟨E3,e3,e2⟩:=Za.mp e2
  refine .inr ⟨g1,fun σ2 H2=>∃Ej,bL g b (ds.drop (i+1)) Ej=some (E',fl)∧Frm X.K B' σ2 H2 Ej xs Xs,fun σ2 H2 ⟨Ej,ej,frj⟩=>⟨ds.length - (i+1),by omega,rfl,hlt,Ej,ej,frj⟩,fun x H2 y=>?_⟩
  refine⟨B',Ei,xs,Xs,d,E3,yl x H2 y,Still.nil cl,e3,fun σ3 H3 fr3=>?_⟩
  refine⟨B',E3,xs,Xs,E2,f2,fr3,cl,e2,?_⟩
  cases f2 with
  |nx=>exact fun σ4 H4 fr4=>⟨E2,ei,fr4⟩
  |ct=>exact fun σ4 H4 fr4=>⟨E2,ei,fr4⟩
  |bk=>cases ei;exact fun σ4 H4 fr4=>q _ _ (fr4.base hB)
  |rt r=>cases ei;exact fun σ4 v H4 fr4=>q _ _ _ (fr4.base hB)
 ·have e0:i=ds.length:=by omega
  refine .inl ⟨stop e0,?_⟩
  rw[e0,List.drop_length]at ei
  cases ei
  exact q _ _ (Frm.base ⟨F,A,fri⟩ hB)
def bY:Sl→Bool
 |.sh d=>cE d
 |.ow ds=>bx ds
 |.tx ps=>ps.all fun p=>match p with |.fl d=>cE d |.ol ds=>bx ds
 |.od kvs=>kvs.all fun p=>bx p.2
 |_=>false
def bG(n:Nat)(ds:List PyData):List Sl:=ds.map .sh++List.replicate (n - ds.length) .no
def cQ(r:Sl):Option Sl:=if bY r then some r else match r with
 |.sh d=>some (.br d)
 |.ow ds=>some (.br (.list ds))
 |.tx ps=>some (.br (.tuple (ps.map Pt.val)))
 |.br d=>some (if cE d then .sh d else .br d)
 |_=>none
def gT(n:Nat)(g:cR):List PyData→Option Sl:=fun ds=>(g (bG n ds)).bind fun a=>match a.2 with
 |.rt r=>cQ r
 |.nx=>some (.sh .none)
 |_=>none
section
variable {K:Frag} {B F:Hp} {A:List Addr} {σ:i8} {H:Hp} {E:List Sl} {v:V} {r:Sl}
theorem DlOk.cold{F H:Hp}(sF:Same F H):∀{us:List (cU×V)} {kvs:List (cU×List PyData)} {A:List Addr},(∀p∈kvs,bx p.2=true)→DlOk K F H us kvs A→DlOk K (tups H) H us kvs A
 |[],[],A,_,h=>h
 |p::us,q::kvs,A,c,h=>by
  obtain⟨l,vs,A',rfl,rfl,hl,hr,k⟩:=h
  exact⟨l,vs,A',rfl,rfl,hl,(hr.same sF).cold (c q (f_ ..)),DlOk.cold sF (fun p hp=>c p (fD _ hp)) k⟩
 |[],_::_,_,_,h=>False.elim h
 |_::_,[],_,_,h=>False.elim h
theorem PtsOk.cold{F H G:Hp}(sF:Same F H)(tG:∀{v:V} {d:PyData},Rp K F v d→cE d=true→Rp K G v d):∀{vs:List V} {ps:List Pt} {A:List Addr},(∀p∈ps,(match p with |.fl d=>cE d |.ol ds=>bx ds)=true)→PtsOk K F H vs ps A→PtsOk K G H vs ps A
 |[],[],A,_,h=>h
 |v::vs,.fl d::ps,A,c,h=>⟨tG h.1 (c (.fl d) (f_ ..)),PtsOk.cold sF tG (fun p hp=>c p (fD _ hp)) h.2⟩
 |v::vs,.ol ds::ps,A,c,h=>by
  obtain⟨l,us,A',rfl,rfl,hl,hr,q⟩:=h
  refine⟨l,us,A',rfl,rfl,hl,?_,q.cold sF tG fun p hp=>c p (fD _ hp)⟩
  have cd:bx ds=true:=c (.ol ds) (f_ ..)
  have key:∀{us:List V} {ds:List PyData},RpA K F us ds→bx ds=true→RpA K G us ds:=fun {us ds} r c=>by
   induction us generalizing ds with
   |nil=>cases r;exact .nil
   |cons u us ih=>
    cases r with
    |cons r1 r2=>
     simp only[bx,pW]at c
     exact .cons (tG r1 c.1) (ih r2 c.2)
  exact key hr cd
 |[],_::_,_,_,h=>False.elim h
 |_::_,[],_,_,h=>False.elim h
theorem FrF.result(h:FrF K B F A σ H E [v] [r])(c:bY r=true):Same B H∧rq K B H v r:=by
 refine⟨h.bf.trans h.fh,?_⟩
 have nB:∀a,F a=none→B a=none:=fun a e=>h.bf.free e
 have cold:∀{v:V} {d:PyData},Rp K F v d→cE d=true→Rp K (tups H) v d:=fun r f=>(r.same h.fh).cold f
 obtain⟨v',A1,ev,hs⟩:=h.ext (k:=0) rfl
 cases ev
 obtain⟨o,C0,C1,C2,eA,eo,hp,_⟩:=h.sl.at (k:=0) (s:=r) rfl
 cases eo
 have sub:∀a∈C1,F a=none:=fun a ha=>h.fr a (by rw[eA];simp[ha])
 have nd:C1.Nodup:=by
  have:=h.nd
  rw[eA]at this
  exact(Zba.mp (Zba.mp this).2.1).1
 cases r with
 |sh d=>obtain⟨_,w,ew,r⟩:=hp;cases ew;exact cold r c
 |ow ds=>
  obtain⟨l,vs,el,rfl,hl,r⟩:=hp
  cases el
  exact⟨l,vs,rfl,nB l (sub l (by simp)),hl,(r.same h.fh).cold c⟩
 |tx ps=>
  obtain⟨t,vs,et,ht,r⟩:=hp
  cases et
  exact⟨t,vs,C1,rfl,iI (h.fh _ _ ht) rfl,nd,fun a ha=>nB a (sub a ha),r.cold h.fh cold (by simpa[bY,List.all_eq_true]using c)⟩
 |no=>cases c
 |od kvs=>
  obtain⟨l,us,A',el,rfl,hl,r⟩:=hp
  cases el
  exact⟨l,us,A',rfl,nd,fun a ha=>nB a (sub a ha),hl,r.cold h.fh (by simpa[bY,List.all_eq_true]using c)⟩
 |oi kvs=>cases c
 |al i=>cases c
 |br d=>cases c
theorem FrF.resultO{r':Sl}(h:FrF K B F A σ H E [v] [r])(c:cQ r=some r'):Same B H∧rq K B H v r':=by
 unfold cQ at c
 split at c
 ·rename_i hc
  cases c
  exact h.result hc
 ·refine⟨h.bf.trans h.fh,?_⟩
  cases r with
  |sh d=>cases c;exact(h.look0 (d:=d) rfl).1
  |ow ds=>cases c;exact(h.look0 (d:=.list ds) rfl).1
  |tx ps=>cases c;exact(h.look0 (d:=.tuple (ps.map Pt.val)) rfl).1
  |br d=>
   have r:=(h.look0 (d:=d) rfl).1
   simp only at c
   split at c
   ·rename_i hf
    cases c
    exact r.cold hf
   ·cases c
    exact r
  |no=>cases c
  |od kvs=>cases c
  |oi kvs=>cases c
  |al i=>cases c
theorem j_{N:List Str}{vs:List V}{ds:List PyData}(r:RpA K H vs ds)(hn:ds.length≤N.length):FrF K H H [] (L2.dg N vs) H (bG N.length ds) [] []:=by
 refine⟨Same.refl _,Same.refl _,jb H,?_,List.nodup_nil,fun a ha=>(by cases ha),rfl,?_⟩
 ·have l:=r.len
  unfold L2.dg bG
  rw[l]
  generalize N.length - ds.length=k
  have base:∀τ:i8,SAll (SlOk K H H τ) (List.replicate k none) (List.replicate k .no) []:=fun τ=>by
   induction k with
   |zero=>exact .nil
   |succ k ih=>exact .cons (A:=[]) rfl ih
  have key:∀(τ:i8) {us:List V} {es:List PyData},RpA K H us es→SAll (SlOk K H H τ) (us.map some++List.replicate k none) (es.map .sh++List.replicate k .no) []:=fun τ us es r=>by
   induction us generalizing es with
   |nil=>cases r;exact base τ
   |cons u us ih=>
    cases r with
    |cons r1 r2=>exact .cons (A:=[]) ⟨rfl,_,rfl,r1⟩ (ih _ r2)
  exact key _ r
 ·intro s hs
  unfold bG at hs
  rcases Zao.mp hs with hs |hs
  ·obtain⟨d,_,rfl⟩:=List.mem_map.mp hs
   rfl
  ·rw[(List.mem_replicate.mp hs).2]
   rfl
end
def eZ(k n:Nat)(g:cR):List PyData→Option Sl:=fun ds=>if ds.length=k then gT n g ds else none
theorem gm{P:Program}{w:World}{K:Frag}{mg:Str→Option Value}{base:Heap}{x:Str}{st:Stmt}{N ps:List Str}{k a n:Nat}{g:cR}(D:Def K mg x st ps)(S:FnScope N ps (ag st))(hpa:ps.length=a)(hNn:N.length=n)(hps:a≤n)
  (hbody:∀(f:Addr) (cdv:Value) (A:Around) (outer:List Env) (s:Shared) (H:Hp) (E:XK),Room k (A.deeper (PyProof.Rows.envOfC x (ag st) s.heap.objs.size f cdv))→
   rh (g9 pU P w K mg base N x (ag st) f cdv A outer s H E).nox (bh st) g):Own P w K mg base (k+1) x ps (dD K (eZ a n g)):=by
 subst hpa hNn
 refine D.own S (fun vs H Q E h=>?_) (fun f cdv A outer s H vs Q E hr h=>?_)
 ·obtain⟨ds,r,e,rp,_⟩:=h
  unfold eZ at e
  split at e
  ·rename_i hl
   rw[rp.len];exact hl
  ·cases e
 obtain⟨ds,r,e,rp,q⟩:=h
 unfold eZ at e
 split at e
 ·rename_i hl
  refine⟨_,hbody f cdv A outer s H E hr,?_⟩
  obtain⟨⟨E',fl⟩,e1,e⟩:=Za.mp e
  refine⟨H,bG N.length ds,[],[],E',fl,⟨H,[],j_ rp (by omega)⟩,rfl,e1,?_⟩
  cases fl with
  |nx=>
   cases e
   rintro σ' H' ⟨F',A',fr'⟩
   exact q _ _ (fr'.bf.trans fr'.fh) .non
  |bk=>cases e
  |ct=>cases e
  |rt r'=>
   rintro σ' v H' ⟨F',A',fr'⟩
   obtain⟨s1,s2⟩:=fr'.resultO e
   exact q v H' s1 s2
 ·cases e
theorem CV{P:Program}{w:World}{K:Frag}{mg:Str→Option Value}{base:Heap}{x:Str}{st:Stmt}{N ps:List Str}{k a n:Nat}{g:cR}{f0:Addr}{fd:FuncData}(D:Fun K x x st f0 fd)(S:FnScope N ps (ag st))(hpa:ps.length=a)(hNn:N.length=n)(hps:a≤n)
  (hbody:∀(cdv:Value) (A:Around) (outer:List Env) (s:Shared) (H:Hp) (E:XK),Room k (A.deeper (PyProof.Rows.envOfC x (ag st) s.heap.objs.size f0 cdv))→
   rh (g9 pU P w K mg base N x (ag st) f0 cdv A outer s H E).nox (bh st) g):FnOk P w K mg base pU (k+1) f0 fd ps (dD K (eZ a n g)):=by
 subst hpa hNn
 refine D.ok S (fun vs H Q E h=>?_) (fun cdv A outer s H vs Q E hr h=>?_)
 ·obtain⟨ds,r,e,rp,_⟩:=h
  unfold eZ at e
  split at e
  ·rename_i hl
   rw[rp.len];exact hl
  ·cases e
 obtain⟨ds,r,e,rp,q⟩:=h
 unfold eZ at e
 split at e
 ·rename_i hl
  refine⟨_,hbody cdv A outer s H E hr,?_⟩
  obtain⟨⟨E',fl⟩,e1,e⟩:=Za.mp e
  refine⟨H,bG N.length ds,[],[],E',fl,⟨H,[],j_ rp (by omega)⟩,rfl,e1,?_⟩
  cases fl with
  |nx=>
   cases e
   rintro σ' H' ⟨F',A',fr'⟩
   exact q _ _ (fr'.bf.trans fr'.fh) .non
  |bk=>cases e
  |ct=>cases e
  |rt r'=>
   rintro σ' v H' ⟨F',A',fr'⟩
   obtain⟨s1,s2⟩:=fr'.resultO e
   exact q v H' s1 s2
 ·cases e
theorem l9{K:Frag}{H:Hp}:∀ns:List Int,RpA K H (ns.map V.int) (ns.map PyData.int)
 |[]=>.nil
 |n::ns=>.cons (.int n) (l9 ns)
theorem zL{K:Frag}{H:Hp}{a:Addr}{ns:List Int}{c:List PyData→Option Sl}(e:c [.list (ns.map .int)]=some (.sh (.bool true)))(h:SqL K H a (ns.map V.int)):dD K c [.ref a] H (fun v _=>v=.bl true) fun _ _ _=>False:=
 ⟨_,_,e,.cons (.lst h (l9 ns)) .nil,fun v H' _ r=>by
  have r':Rp K (tups H') v (.bool true):=r
  cases r'
  rfl⟩
end PL
namespace PL
open PySem L2 Nh
def rz(E:List Sl):Option Nat→Sl
 |none=>.no
 |some j=>match (E[j]?).bind Sl.val with
  |some d=>.sh d
  |none=>.no
def ie(js:List (Option Nat))(E:List Sl):List Sl:=js.map (rz E)
def aR:gh:=fun E=>some (true,E)
def bZ(tg:gb)(cond:gh)(elt:aO):List PyData→List Sl→Option (List PyData)
 |[],_=>some []
 |d::ds,E=>(tg d E).bind fun E1=>(cond E1).bind fun b=>if b.1 then (elt b.2).bind fun c=>(frz c.2 c.1).bind fun e=>(bZ tg cond elt ds e.2).map fun r=>e.1::r else bZ tg cond elt ds b.2
def bd(js:List (Option Nat))(it:iJ)(tg:gb)(cond:gh)(elt:aO):aO:=fun E=>(it E).bind fun a=>(bZ tg cond elt a.1 (ie js a.2)).bind fun ds=>if bx ds&&decide (ds.length≤1000000)then some (.ow ds,a.2)else none
section
variable {X:Cx} {elt target iter:Expr} {ifs:List Expr} {scope sc:Scope} {cl:List (Str×Addr)} {N:List Str} {pos:Pos} {js:List (Option Nat)} {K:Frag}
theorem uW{B F:Hp}{A:List Addr}{σ:i8}{H:Hp}{E:List Sl}{xs:List V}{Xs:List Sl}(fr:FrF K B F A σ H E xs Xs)(js:List (Option Nat)):FrF K H H [] (slots js σ) H (ie js E) [] []:=by
 refine⟨Same.refl _,Same.refl _,jb H,?_,List.nodup_nil,fun a ha=>(by cases ha),rfl,fun s hs=>?_⟩
 ·have key:∀(τ:i8) (ks:List (Option Nat)),SAll (SlOk K H H τ) (slots ks σ) (ie ks E) []:=fun τ ks=>by
   induction ks with
   |nil=>exact .nil
   |cons j ks ih=>
    refine .cons (A:=[]) ?_ ih
    cases j with
    |none=>exact rfl
    |some j=>
     show SlOk K H H τ _ (match (E[j]?).bind Sl.val with |some d=>.sh d |none=>.no) []
     cases ej:E[j]? with
     |none=>exact rfl
     |some s=>
      cases ev:s.val with
      |none=>simp only[Z0,ev];exact rfl
      |some d=>
       simp only[Z0,ev]
       obtain⟨o,A1,eo,hs⟩:=fr.var ej
       obtain⟨v,rfl,r,_⟩:=hs.val fr.fh ev
       refine⟨rfl,v,?_,r⟩
       show(σ[j]?).join=some v
       rw[eo]
       rfl
  exact key _ js
 ·obtain⟨j,_,rfl⟩:=List.mem_map.mp hs
  cases j with
  |none=>rfl
  |some j=>
   simp only[rz]
   split <;> rfl
theorem l_{m2 m3:Bool}{tg:gb}{cond:gh}{el:aO}{tt:TT}(htt:∀σ H Q,rt K m2 cond σ H Q→tt σ H Q){B B' F:Hp}{A:List Addr}{σ:i8}{H1:Hp}{E1:List Sl}{xs:List V}{Xs:List Sl}{ds rs:List PyData}{J:It}{Q:VK}
  (fr1:FrF K B F A σ H1 E1 xs Xs) (B2:Same B' H1) (ok:qh K B' J ds) (e2:bZ tg cond el ds (ie js E1)=some rs) (hc:bx rs=true∧rs.length≤1000000) (q:∀v H',Frm K B σ H' E1 (v::xs) (.ow rs::Xs)→Q v H') (l:Addr) (hl:H1 l=none):
  ∃W:Nat→Nat→i8→Hp→Prop,(∃m,W 0 m (slots js σ) (upd H1 l (.lst [])))∧
 ∀i m σ' H',W i m σ' H'→(J.stop i H'∧Q (.ref l) H')∨(J.go i H'∧∃N:i8→Hp→Prop,(∀σ' H',N σ' H'→∃m',m' < m∧W (i+1) m' σ' H')∧∀x H2,J.yld i H' x H2→rg K tg x σ' H2 fun σ3 H3=>tt σ3 H3 fun b H4=>
  if b=true then rd K m3 el σ3 H4 fun y H5=>∃ys,H5 l=some (.lst ys)∧ys.length < sizeLine∧N σ3 (upd H5 l (.lst (ys++[y])))else N σ3 H4):=by
 have fr0:=(uW fr1 js).newl (ds:=[]) .nil hl
 refine⟨fun i mm σ' H'=>mm=ds.length - i∧i≤ds.length∧∃Ei acc aA,bZ tg cond el (ds.drop i) Ei=some aA∧rs=acc++aA∧Frm K H1 σ' H' Ei [.ref l] [.ow acc],⟨ds.length,by simp,Nat.zero_le _,_,[],rs,by simpa using e2,rfl,⟨_,_,fr0⟩⟩,?_⟩
 rintro i mm σ' H' ⟨rfl,hi,Ei,acc,aA,ei,er,F',A',fri⟩
 obtain⟨go,stop⟩:=ok i B2 fri
 by_cases hlt:i < ds.length
 ·obtain⟨d,ed⟩:∃d,ds[i]? =some d:=⟨ds[i],pS hlt⟩
  obtain⟨g1,yl⟩:=go d ed
  have edr:ds.drop i=d::ds.drop (i+1):=by
   rw[List.drop_eq_getElem_cons hlt]
   congr 1
   exact Option.some.inj ((pS hlt).symm.trans ed)
  rw[edr]at ei
  obtain⟨E3,e3,ei⟩:=Za.mp ei
  obtain⟨⟨b,E4⟩,e4,ei⟩:=Za.mp ei
  refine .inr ⟨g1,fun σ2 H2=>∃Ej acc aA,bZ tg cond el (ds.drop (i+1)) Ej=some aA∧rs=acc++aA∧Frm K H1 σ2 H2 Ej [.ref l] [.ow acc],fun σ2 H2 ⟨Ej,ac,rt,ej,er,frj⟩=>⟨ds.length - (i+1),by omega,rfl,hlt,Ej,ac,rt,ej,er,frj⟩,fun x H2 y=>?_⟩
  have clm:Calm [Sl.ow acc]:=Calm.cons (fun s hs=>absurd hs (by simp)) rfl
  refine⟨H1,Ei,[.ref l],[.ow acc],d,E3,yl x H2 y,(fun s hs=>by rw[Zaf.mp hs];rfl),e3,fun σ3 H3 fr3=>htt _ _ _ ?_⟩
  refine⟨H1,E3,[.ref l],[.ow acc],b,E4,fr3,fun _=>clm,e4,fun H4 fr4=>?_⟩
  cases b with
  |false=>
   rw[if_neg (by decide)]
   exact⟨E4,acc,aA,ei,er,fr4⟩
  |true=>
   rw[if_pos rfl]
   obtain⟨⟨s5,E5⟩,e5,ei⟩:=Za.mp ei
   obtain⟨⟨d6,E6⟩,e6,ei⟩:=Za.mp ei
   obtain⟨rest',e7,ei⟩:=Zab.mp ei
   subst ei
   refine⟨H1,E4,[.ref l],[.ow acc],s5,E5,fr4,fun _=>clm,e5,fun y5 H5 ⟨F5,A5,fr5⟩=>?_⟩
   obtain⟨F6,A6,fr6⟩:=fr5.frz0 e6
   obtain⟨v',C1,ev,rfl,w,ew,ry⟩:=fr6.ext (k:=0) rfl
   cases ev;cases ew
   obtain⟨A7,fr7⟩:=fr6.pop
   -- the list under way is the one part that owns
   obtain⟨bf,fh,tf,sl,nd,frn,len,pl⟩:=fr7
   generalize hT:List.map some [V.ref l]++σ3=T at sl
   generalize hS:[Sl.ow acc]++E6=S at sl
   cases sl with
   |nil=>cases hS
   |cons q0 r0=>
    injection hT with h1 hT
    injection hS with h2 hS
    subst h1 h2 hT hS
    obtain⟨l',us,el,rfl,hl5,ru⟩:=q0
    cases el
    have lu:=ru.len
    refine⟨us,hl5,small (by rw[er]at hc;simp at hc;omega),E6,acc++[d6],rest',e7,by rw[er];simp,F6,_,bf,fun b o qb=>?_,?_,.cons (A:=[l]) ⟨l,us++[y5],rfl,rfl,bF,ru.snoc ry⟩ (r0.mono fun o s C hs hC qq=>qq.stay (Same.refl _) (fun b hb=>aD fun z=>?_) fun z=>?_),nd,frn,rfl,pl⟩
    ·have lF:F6 l=none:=frn l (by simp)
     rw[aD (fun z=>by rw[z,lF]at qb;cases qb)]
     exact fh _ _ qb
    ·rw[ou hl5];exact tf
    ·have:=hC b hb
     rw[z]at this
     exact(List.nodup_cons.mp nd).1 this
    ·have:=pl s hs
     cases s <;> simp[Sl.isAl,Sl.isBr]at this z
 ·have e0:i=ds.length:=by omega
  refine .inl ⟨stop e0,?_⟩
  rw[e0,List.drop_length]at ei
  cases ei
  rw[List.append_nil]at er
  subst er
  obtain⟨g1,g2⟩:=fri.result hc.1
  exact q _ _ (fr1.told g1 g2)
theorem nj{m m2 m3:Bool}{it:iJ}{tg:gb}{cond:gh}{el:aO}{tt:TT}(htt:∀σ H Q,rt K m2 cond σ H Q→tt σ H Q){σ:i8}{H:Hp}{Q:VK}(z:rd K m (bd js it tg cond el) σ H Q):jH js (ri K m it) (rg K tg) tt (rd K m3 el) σ H Q:=by
 obtain⟨B,E,xs,Xs,res,E',fr,cl,e,q⟩:=z
 obtain⟨⟨ds,E1⟩,e1,e⟩:=Za.mp e
 obtain⟨rs,e2,e⟩:=Za.mp e
 simp only at e
 split at e
 ·rename_i hc
  cases e
  simp only[pW,decide_eq_true_eq]at hc
  exact⟨B,E,xs,Xs,ds,_,fr,cl,e1,fun B' J H1 hB ⟨F,A,fr1⟩ ok l hl=>l_ htt (fr1.base hB) (fr1.bf.trans fr1.fh) ok e2 hc q l hl⟩
 ·cases e
def B3(K:Frag)(m:Bool)(f:iJ):TI:=fun σ H R=>∃B E xs Xs ds E',Frm K B σ H E xs Xs∧(m=true→Calm Xs)∧f E=some (ds,E')∧∀J H',Frm K B σ H' E' xs Xs→qh K H' J ds→R J H'
def CJ(X:Cx)(tg e:Expr)(m:Bool)(f:iJ):Prop:=PI X tg e (B3 X.K m f)
theorem oI{m m2 m3:Bool}{it:iJ}{tg:gb}{cond:gh}{el:aO}{tt:TT}(htt:∀σ H Q,rt K m2 cond σ H Q→tt σ H Q){σ:i8}{H:Hp}{Q:VK}(z:rd K m (bd js it tg cond el) σ H Q):jH js (B3 K m it) (rg K tg) tt (rd K m3 el) σ H Q:=by
 obtain⟨B,E,xs,Xs,res,E',fr,cl,e,q⟩:=z
 obtain⟨⟨ds,E1⟩,e1,e⟩:=Za.mp e
 obtain⟨rs,e2,e⟩:=Za.mp e
 simp only at e
 split at e
 ·rename_i hc
  cases e
  simp only[pW,decide_eq_true_eq]at hc
  exact⟨B,E,xs,Xs,ds,_,fr,cl,e1,fun J H1 ⟨F,A,fr1⟩ ok l hl=>l_ htt fr1 (Same.refl _) ok e2 hc q l hl⟩
 ·cases e
theorem fH{m m3:Bool}{it:iJ}{tg:gb}{el:aO}(C:CompOk X scope sc cl N js)(hc:X.calm=true)(hi:IX X target iter m it)(hg:∀C s₀ H₀ fp,GX (X.comp sc cl N C s₀ H₀ fp) target tg)(he:∀C s₀ H₀ fp,EX (X.comp sc cl N C s₀ H₀ fp) elt m3 el)
  (hs:∀x,foldedSetIterable iter X.env x=pure x:=by intro _;rfl):EX X (.ListComp elt [⟨target,iter,[],0⟩] scope pos) m (bd js it tg aR el):=
 bv (m4 (g:=rg X.K tg) (te:=rd X.K m3 el) C hc hi hg (fun _ _ _ _=>j7) he hs) fun σ H Q z=>nj (m2:=false) (fun σ H Q z=>by
  obtain⟨B,E,xs,Xs,b,E',fr,cl,e,q⟩:=z
  cases e
  exact q _ fr) z
theorem oJ{c:Expr}{m m2 m3:Bool}{it:iJ}{tg:gb}{cond:gh}{el:aO}(C:CompOk X scope sc cl N js)(hc:X.calm=true)(hi:IX X target iter m it)(hg:∀C s₀ H₀ fp,GX (X.comp sc cl N C s₀ H₀ fp) target tg)(ht:∀C s₀ H₀ fp,TX (X.comp sc cl N C s₀ H₀ fp) c m2 cond)(he:∀C s₀ H₀ fp,EX (X.comp sc cl N C s₀ H₀ fp) elt m3 el)
  (hs:∀x,foldedSetIterable iter X.env x=pure x:=by intro _;rfl):EX X (.ListComp elt [⟨target,iter,[c],0⟩] scope pos) m (bd js it tg cond el):=
 bv (m4 (g:=rg X.K tg) (te:=rd X.K m3 el) (tt:=rt X.K m2 cond) C hc hi hg (fun _ _ _ _=>wS (ht _ _ _ _)) he hs) fun σ H Q z=>nj (m2:=m2) (fun _ _ _ z=>z) z
def gn(f:aO):iJ:=fun E=>(f E).bind fun a=>match look a.2 a.1 with
 |some (.list ds)=>some (ds,a.2)
 |_=>none
theorem xj{tg e:Expr}{m:Bool}{f:aO}(he:EX X e m f):CJ X tg e m (gn f):=qi (qV he) fun σ H R z=>by
 obtain⟨B,E,xs,Xs,ds,E',fr,cl,e,q⟩:=z
 obtain⟨⟨s,E1⟩,e1,e⟩:=Za.mp e
 simp only at e
 split at e
 ·rename_i ds' ld
  cases e
  refine⟨B,E,xs,Xs,s,_,fr,cl,e1,fun v H1 ⟨F,A,fr1⟩=>?_⟩
  obtain⟨r,_⟩:=fr1.look0 ld
  obtain⟨A',fr2⟩:=fr1.pop
  cases r with
  |lst h1 h2=>exact⟨_,rfl,⟨_,h1⟩,q _ _ ⟨F,A',fr2⟩ (jh h1 h2)⟩
 ·cases e
theorem sS{m m3:Bool}{it:iJ}{tg:gb}{el:aO}(C:CompOk X scope sc cl N js)(hc:X.calm=true)(hi:CJ X target iter m it)(hg:∀C s₀ H₀ fp,GX (X.comp sc cl N C s₀ H₀ fp) target tg)(he:∀C s₀ H₀ fp,EX (X.comp sc cl N C s₀ H₀ fp) elt m3 el)
  (hs:∀x,foldedSetIterable iter X.env x=pure x:=by intro _;rfl):EX X (.ListComp elt [⟨target,iter,[],0⟩] scope pos) m (bd js it tg aR el):=
 bv (m4 (g:=rg X.K tg) (te:=rd X.K m3 el) C hc hi hg (fun _ _ _ _=>j7) he hs) fun σ H Q z=>oI (m2:=false) (fun σ H Q z=>by
  obtain⟨B,E,xs,Xs,b,E',fr,cl,e,q⟩:=z
  cases e
  exact q _ fr) z
end
end PL
namespace PL
open PySem L2 Nh
def keyOf:PyData→Option cU
 |.int i=>some (.inl i)
 |.str x=>some (.inr x)
 |_=>none
def keysOf:List (PyData×PyData)→Option (List cU)
 |[]=>some []
 |p::r=>(keyOf p.1).bind fun k=>(keysOf r).map fun ks=>k::ks
end PL
namespace PL
open PySem L2 Nh
theorem zM{K:Frag}{m:Bool}{i:Nat}{f:aO}{D:Ends}{σ:i8}{H:Hp}(z:rs K (aL i f) D σ H):rd K m f σ H fun v H1=>jF i v σ H1 D.nx:=by
 obtain⟨B,E,xs,Xs,E',fl,fr,cl,e,q⟩:=z
 obtain⟨⟨s,E1⟩,e1,e⟩:=Za.mp e
 obtain⟨⟨s',E2⟩,e2,e⟩:=Za.mp e
 refine⟨B,E,xs,Xs,s,E1,fr,fun _=>Calm.nil cl,e1,fun v H1 ⟨F,A,fr1⟩=>?_⟩
 obtain⟨c1,F2,A2,fr2⟩:=fr1.settle cl e2
 simp only at e
 split at e
 ·rename_i hi
  cases e
  obtain⟨A3,fr3⟩:=fr2.store c1 (Still.nil cl) hi
  exact q _ _ ⟨F2,A3,fr3⟩
 ·cases e
section
variable {X:Cx} {elt target iter:Expr} {scope sc:Scope} {cl:List (Str×Addr)} {N:List Str} {pos spos px:Pos} {js:List (Option Nat)} {x:Str}
theorem uX{m m3:Bool}{it:iJ}{tg:gb}{el:aO}(i:Nat)(hN:X.N.Nodup)(C:CompOk X scope sc cl N js)(hc:X.calm=true)(h:IX X target iter m it)(hg:∀C s₀ H₀ fp,GX (X.comp sc cl N C s₀ H₀ fp) target tg)(he:∀C s₀ H₀ fp,EX (X.comp sc cl N C s₀ H₀ fp) elt m3 el)
  (hi:X.N[i]? =some x:=by rfl) (hx:yR X.env.scope x:=by first |exact Or.inl rfl |exact Or.inr rfl) (hf:X.fn x=true∨X.env.scope.names.lookup x=some .local:=by first |exact .inl rfl |exact .inr rfl |assumption)
  (hs:∀x,foldedSetIterable iter X.env x=pure x:=by intro _;rfl) (hsw:swapsWith (.ListComp elt [⟨target,iter,[],0⟩] scope pos) (some (.Name x px)) spos.line X.env=pure true:=by rfl):
  SX X (.Assign [.Name x px] (.ListComp elt [⟨target,iter,[],0⟩] scope pos) spos) (aL i (bd js it tg aR el)):=
 hJ (wT (g:=rg X.K tg) (te:=rd X.K m3 el) C hc (mS hN hi hx hf) h hg (fun _ _ _ _=>j7) he hs hsw) fun D σ H z=>nj (m2:=false) (fun σ H Q z=>by
  obtain⟨B,E,xs,Xs,b,E',fr,cl,e,q⟩:=z
  cases e
  exact q _ fr) (zM z)
end
def Bv:Const→Option Int
 |.int i=>some i
 |_=>none
def zN:Expr→Option Int
 | .Constant c _ _=>Bv c
 |_=>none
def gL:List Expr→Option (List Int)
 |[]=>some []
 |e::r=>(zN e).bind fun i=>(gL r).map (i:: ·)
def uY(ns:List Int):iJ:=fun E=>some (ns.map .int,E)
theorem zO{e:Expr}{i:Int}(h:zN e=some i):∃k p,e= .Constant (.int i) k p:=by
 unfold zN at h
 split at h
 ·unfold Bv at h
  split at h
  ·cases h;exact⟨_,_,rfl⟩
  ·cases h
 ·cases h
theorem rA{X:Cx}:∀{es:List Expr} {ns:List Int},gL es=some ns→DX X es false (uY ns)
 |[],ns,h=>by cases h;exact jf
 |e::es,ns,h=>by
  obtain⟨i,h0,h⟩:=Za.mp h
  obtain⟨ms,h1,h⟩:=Zab.mp h
  subst h
  obtain⟨k,p,rfl⟩:=zO h0
  exact gK (m1:=false) (m2:=false) ak (rA h1) rfl
def Bw(body:List Stmt)(k:Nat):List Expr:=match body[k]? with
 |some (.Assign _ (.Subscript (.List es _) _ _) _)=>es
 |_=>[]
def Cr(es:List Expr):Stmt→Stmt
 | .Assign t (.Subscript (.List _ p) i q) r=> .Assign t (.Subscript (.List es p) i q) r
 |s=>s
def zP(es:List Expr):Nat→List Stmt→List Stmt
 |_,[]=>[]
 | 0,s::r=>Cr es s::r
 |k+1,s::r=>s::zP es k r
theorem qk{X:Cx}{body:List Stmt}{g:cR}(k:Nat)(ns:List Int)(h:gL (Bw body k)=some ns)(hb:zP (Bw body k) k body=body)(key:∀es,gL es=some ns→rh X (zP es k body) g):rh X body g:=by
 have:=key _ h
 rw[hb]at this
 exact this
end PL
namespace PL
open PySem L2 Nh
theorem gq{α:Type}(xs:List α)(k:Nat):atI xs (k:Int)=xs[k]? :=by
 unfold atI Be
 rw[if_pos (by omega)]
 split
 ·simp
 ·rw[List.getElem?_eq_none (by omega)];rfl
theorem zQ{α:Type}{xs:List α}{i:Int}(h:0≤i):atI xs i=xs[i.toNat]? :=by
 have e:i=((i.toNat:Nat):Int):=by omega
 rw[e,gq,Int.toNat_natCast]
def cutL{α:Type}(l:List α)(lo hi:Option Int):List α:=(l.drop (HT.j6 l.length 0 lo)).take (HT.j6 l.length l.length hi - HT.j6 l.length 0 lo)
theorem uZ{α:Type}(f:α→PyData)(l:List α)(lo hi:Option Int):qf (l.map f) lo hi=(cutL l lo hi).map f:=by
 unfold qf cutL
 rw[dv,List.map_take,List.map_drop]
theorem sT{α:Type}(l:List α){k:Int}(h0:0≤k):cutL l none (some k)=l.take k.toNat:=by
 have e:k=((k.toNat:Nat):Int):=by omega
 have z:∀d,HT.j6 l.length d (some k)=min k.toNat l.length:=fun d=>by
  rw[e,HT.wI,Int.toNat_natCast]
 unfold cutL
 rw[z,HT.uz,List.drop_zero,Nat.sub_zero]
 rcases Nat.le_total k.toNat l.length with h |h
 ·rw[Nat.min_eq_left h]
 ·rw[Nat.min_eq_right h,List.take_length,List.take_of_length_le h]
theorem u0{α:Type}{l:List α}{lo hi:Option Int}{x:α}(h:x∈cutL l lo hi):x∈l:=List.mem_of_mem_drop (List.mem_of_mem_take h)
theorem jj(lo:Int)(n:Nat):iN lo (n+1)=.int lo::iN (lo+1) n:=by
 unfold iN
 rw[List.range_succ_eq_map,c9,List.map_map]
 simp only[Int.natCast_zero,Int.add_zero]
 congr 1
 refine List.map_congr_left fun k _=>?_
 show PyData.int (lo+((k+1:Nat):Int))=PyData.int (lo+1+(k:Int))
 congr 1
 omega
end PL
namespace L2
open PySem PySem.Spec PyProof.Rows
def AH(x:Str):It:=⟨fun i _=>i < x.cps.toList.length,fun i H v H'=>H'=H∧∃c,x.cps.toList[i]? =some c∧v=.str ⟨#[c]⟩,fun i _=>i=x.cps.toList.length⟩
theorem oK {P:Program} {w:World} {K:Frag} {tg:Expr} {it:Addr} {T:String} {x:Str} {t:Tok} (hT:T="str_ascii_iterator"∨T="str_iterator"):Turn P w K tg (AH x) [it] it (fun i h=>h.IsStrIter it T x t i) where
 mem:=by simp
 obj:=fun i h st b hb=>by
  have e:b=it:=by simpa using hb
  subst e
  obtain⟨o,e,c,d⟩:=st
  exact⟨o,e,fun v z=>by rw[d]at z;cases z⟩
 keep:=fun i h h' st k=>let ⟨o,ho,r⟩:=st;⟨o,k it (by simp) o ho,r⟩
 item:=by
  intro X hP hw hK hc i pins s σ H E I hf st hg
  subst hP hw hK
  obtain⟨f0,f1,f2,f3,f4,f5⟩:=hf it (by simp)
  have hi:i < x.cps.toList.length:=hg
  have hx:x.cps[i]? =some (x.cps.toList[i]'hi):=by simp at hi;simp[hi]
  have fin:∀(h':Heap),h'.IsStrIter it T x t (i+1)→Heap.SameBut it s.heap h'→∃u,some (Value.str ⟨#[x.cps.toList[i]'hi]⟩ s.toks)=some u∧
    wpAny (model X.prog X.w) X.A (letOwnedTupleGo tg (.ref it) u) (fun _ s2=>∃v H',Inv X pins σ H' s2∧RelV v u∧(AH x).yld i H v H'∧s2.heap.IsStrIter it T x t (i+1)∧∀b∈[it],H' b=none) E {s with heap:=h',toks:=s.toks+1}:=fun h' st' sb=>by
   have I1:Inv X pins σ H {s with heap:=h',toks:=s.toks+1}:=I.turned (t':=s.toks+1) (fun b o hb e=>(sb.2 b hb).trans e) f0 f1 f3 f4 f5
   obtain⟨o,e,c,d⟩:=id st'
   exact⟨_,rfl,oh (s:={s with heap:=h',toks:=s.toks+1}) e c d (by rcases hT with rfl |rfl <;> decide) ⟨.str ⟨#[x.cps.toList[i]'hi]⟩,H,I1,⟨_,rfl⟩,⟨rfl,_,pS hi,rfl⟩,st',fun b hb=>(hf b hb).1⟩⟩
  rcases hT with rfl |rfl
  ·exact wpAny_pyNext_ascii_item st hx fun h' st' sb=>fin h' st' sb
  ·exact wpAny_pyNext_wide_item st hx fun h' st' sb=>fin h' st' sb
 done:=by
  intro X hP hw hK hc i pins s σ H E I hf st hg
  subst hP hw hK
  obtain⟨f0,f1,f2,f3,f4,f5⟩:=hf it (by simp)
  have hi:i=x.cps.toList.length:=hg
  have hx:x.cps[i]? =none:=by simp at hi;simp[hi]
  rcases hT with rfl |rfl
  ·exact wpAny_pyNext_ascii_end (I.ok.hd hc) st hx fun h' eb=>⟨rfl,I.turned (t':=s.toks) (fun b o hb e=>eb b o hb e) f0 f1 f3 f4 f5⟩
  ·exact wpAny_pyNext_wide_end (I.ok.hd hc) st hx fun h' eb=>⟨rfl,I.turned (t':=s.toks) (fun b o hb e=>eb b o hb e) f0 f1 f3 f4 f5⟩
 self:=fun _ _ _ _ _ st h=>by
  rcases hT with rfl |rfl
  ·exact wpAny_pyIter_striter_ascii st h
  ·exact wpAny_pyIter_striter_wide st h
def ql(tl:TE):TI:=fun σ H R=>tl σ H fun v H1=>∃x,v=.str x∧R (AH x) H1
theorem zR{X:Cx}{tg l:Expr}{tl:TE}(hl:PE X l tl):PI X tg l (ql tl):=by
 intro pins s σ H R I h
 refine cr (hl pins s σ H _ I h) fun v s1 ⟨y,H1,I1,r1,q1⟩=>?_
 obtain⟨x,e,q⟩:=q1
 subst e
 obtain⟨t,rfl⟩:=r1
 refine wpAny_pyIter_strU ?_
 refine⟨s1.heap.objs.size,[s1.heap.objs.size],fun i h=>h.IsStrIter s1.heap.objs.size (strIterType x) x t i,_,H1,rfl,I1.kept (t':=s1.toks) fun b o e=>dI _ e,oK (t:=t) ?_,⟨_,gE _ rfl,rfl,rfl⟩,fun b hb=>?_,q⟩
 ·unfold strIterType
  split
  ·exact .inl rfl
  ·exact .inr rfl
 ·have e:b=s1.heap.objs.size:=by simpa using hb
  subst e
  exact I1.fpOk (dw _) (I1.hok.fresh (dw _))
theorem PI.or{X:Cx}{tg l:Expr}{a b:TI}(h1:PI X tg l a)(h2:PI X tg l b):PI X tg l (fun σ H R=>a σ H R∨b σ H R):=by
 intro pins s σ H R I h
 rcases h with h |h
 ·exact h1 pins s σ H R I h
 ·exact h2 pins s σ H R I h
end L2
namespace PL
open PySem L2 Nh
def eH(x:Str):List PyData:=x.cps.toList.map fun c=>.str ⟨#[c]⟩
def bH(f:aO):iJ:=fun E=>(f E).bind fun a=>(frz a.2 a.1).bind fun b=>match b.1 with
 |.list ds=>some (ds,b.2)
 |.tuple ds=>some (ds,b.2)
 |.str x=>some (eH x,b.2)
 |_=>none
section
variable {X:Cx} {K:Frag} {B:Hp}
theorem oM{x:Str}:qh K B (AH x) (eH x):=fun {B' F A σ H E xs Xs} i sB fr=>by
 refine⟨fun d ed=>?_,fun e=>by show i=x.cps.toList.length;rw[e];simp[eH]⟩
 unfold eH at ed
 rw[qT]at ed
 obtain⟨c,ec,rfl⟩:=Zab.mp ed
 refine⟨(List.getElem?_eq_some_iff.mp ec).1,fun z H2 ⟨e1,c',e2,e3⟩=>?_⟩
 rw[ec]at e2;cases e2
 subst e1 e3
 exact⟨F,A,fr.push ⟨rfl,_,rfl,.str _⟩⟩
theorem u4{a:Addr}{vs:List V}{ds:List PyData}(h:SqT K B a vs)(r:RpA K B vs ds):qh K B (Cb K a) ds:=fun {B' F A σ H E xs Xs} i sB fr=>by
 have hH:=fr.fh.tup (fr.bf.tup (sB.tup h))
 refine⟨fun d ed=>?_,fun e=>⟨vs,hH,by rw[e,r.len];exact dw _⟩⟩
 obtain⟨v,ev,rv⟩:=r.get ed
 refine⟨⟨vs,v,hH,ev⟩,fun x H2 ⟨e2,y⟩=>?_⟩
 subst e2
 have:=y vs hH
 rw[ev]at this
 cases this
 exact⟨F,A,fr.push ⟨rfl,_,rfl,rv.same (sB.trans fr.bf)⟩⟩
theorem di{tg e:Expr}{m:Bool}{f:aO}(he:EX X e m f):IX X tg e m (bH f):=qi (PI.or (qV he) (PI.or (y_ he) (zR he))) fun σ H R z=>by
 obtain⟨B,E,xs,Xs,ds,E',fr,cl,e,q⟩:=z
 obtain⟨⟨s,E1⟩,e1,e⟩:=Za.mp e
 obtain⟨⟨d,E2⟩,e2,e⟩:=Za.mp e
 have key:∀(v:V) (H1:Hp),Frm X.K B σ H1 E1 (v::xs) (s::Xs)→∃F2 A2 A3,Rp X.K F2 v d∧Same B F2∧FrF X.K F2 F2 A3 σ H1 E2 xs Xs∧FrF X.K B F2 A2 σ H1 E2 (v::xs) (.sh d::Xs):=fun v H1 ⟨F,A,fr1⟩=>by
  obtain⟨F2,A2,fr2⟩:=fr1.frz0 e2
  obtain⟨v',A1,ev,rfl,w,ew,r⟩:=fr2.ext (k:=0) rfl
  cases ev;cases ew
  obtain⟨A3,fr3⟩:=fr2.pop
  exact⟨F2,A2,A3,r,fr2.bf,fr3.raise,fr2⟩
 simp only at e
 split at e
 ·cases e
  refine .inl ⟨B,E,xs,Xs,s,E1,fr,cl,e1,fun v H1 fr1=>?_⟩
  obtain⟨F2,A2,A3,r,sb,fr3,fr2⟩:=key v H1 fr1
  cases r with
  |lst h1 h2=>exact⟨_,rfl,⟨_,fr2.fh.seq h1⟩,q F2 _ _ sb ⟨F2,A3,fr3⟩ (jh h1 h2)⟩
 ·cases e
  refine .inr (.inl ⟨B,E,xs,Xs,s,E1,fr,cl,e1,fun v H1 fr1=>?_⟩)
  obtain⟨F2,A2,A3,r,sb,fr3,fr2⟩:=key v H1 fr1
  cases r with
  |tup h1 h2=>exact⟨_,rfl,⟨_,fr2.fh.tup h1⟩,q F2 _ _ sb ⟨F2,A3,fr3⟩ (u4 h1 h2)⟩
 ·cases e
  refine .inr (.inr ⟨B,E,xs,Xs,s,E1,fr,cl,e1,fun v H1 fr1=>?_⟩)
  obtain⟨F2,A2,A3,r,sb,fr3,fr2⟩:=key v H1 fr1
  cases r
  exact⟨_,rfl,q F2 _ _ sb ⟨F2,A3,fr3⟩ oM⟩
 ·cases e
end
end PL
namespace PL
open PySem L2 Nh
inductive Cm where
 |lt |le |gt |ge
def Cm.op:Cm→CmpOp
 |.lt=> .Lt
 |.le=> .LtE
 |.gt=> .Gt
 |.ge=> .GtE
def Cm.i:Cm→Int→Int→Bool
 |.lt,i,j=>decide (i < j)
 |.le,i,j=>decide (i≤j)
 |.gt,i,j=>decide (j < i)
 |.ge,i,j=>decide (j≤i)
def Cm.s:Cm→List Nat→List Nat→Bool
 |.lt,i,j=>decide (i < j)
 |.le,i,j=> !decide (j < i)
 |.gt,i,j=>decide (j < i)
 |.ge,i,j=> !decide (i < j)
def dE(c:Cm):PyData→PyData→Option PyData
 |.int i,.int j=>some (.bool (c.i i j))
 |.str x,.str y=>some (.bool (c.s x.cps.toList y.cps.toList))
 |_,_=>none
def CK(c:Cm):R2:=fun x y H Q=>(∃i j,x=.int i∧y=.int j∧Q (.bl (c.i i j)) H)∨(∃i j,x=.str i∧y=.str j∧Q (.bl (c.s i.cps.toList j.cps.toList)) H)
section
variable {X:Cx} {a b c:Expr} {m1 m2 m3:Bool} {f g h:aO} {pos:Pos} {K:Frag}
theorem oN(c:Cm):OpR X (compareOp c.op) (CK c):=by
 cases c with
 |lt=>exact OpR.or A9 sD
 |le=>exact OpR.or A_ (fun pins s σ H x y v u Q I rx ry h=>by
   obtain⟨i,j,rfl,rfl,q⟩:=h
   obtain⟨t,rfl⟩:=rx
   obtain⟨t',rfl⟩:=ry
   exact PySem.P.le_str (aH I q rfl))
 |gt=>exact OpR.or Ba (fun pins s σ H x y v u Q I rx ry h=>by
   obtain⟨i,j,rfl,rfl,q⟩:=h
   obtain⟨t,rfl⟩:=rx
   obtain⟨t',rfl⟩:=ry
   exact PySem.P.gt_str (aH I q rfl))
 |ge=>exact OpR.or Bb (fun pins s σ H x y v u Q I rx ry h=>by
   obtain⟨i,j,rfl,rfl,q⟩:=h
   obtain⟨t,rfl⟩:=rx
   obtain⟨t',rfl⟩:=ry
   exact PySem.P.ge_str (aH I q rfl))
theorem oO(c:Cm):oC K (CK c) (dE c):=fun d1 d2 d v1 v2 H Q e r1 r2=>by
 unfold dE at e
 split at e
 ·cases e;cases r1;cases r2
  exact⟨_,rfl,fun q=>.inl ⟨_,_,rfl,rfl,q⟩⟩
 ·cases e;cases r1;cases r2
  exact⟨_,rfl,fun q=>.inr ⟨_,_,rfl,rfl,q⟩⟩
 ·cases e
theorem sU(c:Cm)(b:Expr):behindInMarks c.op b=false:=by cases c <;> exact mT _
theorem rB(c:Cm)(ha:EX X a m1 f)(hb:EX X b m2 g):TX X (.Compare a [c.op] [b] pos) (m1||m2) (eL (af (fF (dE c)) m2 f g)):=m_ (oN c) (jd (oO c)) ha hb (sU c b)
theorem Bx(c1 c2:Cm)(ha:EX X a m1 f)(hb:EX X b m2 g)(hc:EX X c m3 h)(hm:lastMarks [c1.op,c2.op] [b,c]=false:=by with_unfolding_all rfl):EX X (.Compare a [c1.op,c2.op] [b,c] pos) (m1||(m2||m3)) (eC (dE c1) (dE c2) m2 m3 f g h):=uN (oN c1) (oN c2) (oO c1) (oO c2) ha hb hc hm
theorem By(c1 c2:Cm)(ha:EX X a m1 f)(hb:EX X b m2 g)(hc:EX X c m3 h)(hm:lastMarks [c1.op,c2.op] [b,c]=false:=by with_unfolding_all rfl):TX X (.Compare a [c1.op,c2.op] [b,c] pos) (m1||(m2||m3)) (eL (eC (dE c1) (dE c2) m2 m3 f g h)):=uR (oN c1) (oN c2) (oO c1) (oO c2) ha hb hc hm
def u5:P2:=fF (oA (fun _ j=>decide (0≤j)) fun i j=>.int (i / 2 ^ j.toNat))
def u6:P2:=fF (oA (fun i j=>decide (0≤j∧j≤1000000∧ -(2 ^ 64) < i∧i < 2 ^ 64)) fun i j=>.int (i*2 ^ j.toNat))
def oP:P2:=fF (oA (fun _ _=>true) fun i j=>.int (Builtin.bitAnd i j))
theorem zS(ha:EX X a m1 f)(hb:EX X b m2 g):EX X (.BinOp a .RShift b pos) (m1||m2) (af u5 m2 f g):=jI (r:=yu (fun _ j=>decide (0≤j)) fun i j=>.int (i / 2 ^ j.toNat)) (OpR.imp zh fun x y H Q ⟨i,j,a,b,c,q⟩=>⟨i,j,a,b,of_decide_eq_true c,q⟩) (je fun _ _=>rfl) ha hb
theorem u7(ha:EX X a m1 f)(hb:EX X b m2 g):EX X (.BinOp a .LShift b pos) (m1||m2) (af u6 m2 f g):=jI (r:=yu (fun i j=>decide (0≤j∧j≤1000000∧ -(2 ^ 64) < i∧i < 2 ^ 64)) fun i j=>.int (i*2 ^ j.toNat)) (OpR.imp zg fun x y H Q ⟨i,j,a,b,c,q⟩=>⟨i,j,a,b,rk (of_decide_eq_true c),q⟩) (je fun _ _=>rfl) ha hb
theorem nn(ha:EX X a m1 f)(hb:EX X b m2 g):EX X (.BinOp a .BitAnd b pos) (m1||m2) (af oP m2 f g):=jI (r:=yu (fun _ _=>true) fun i j=>.int (Builtin.bitAnd i j)) (OpR.imp zi fun x y H Q ⟨i,j,a,b,_,q⟩=>⟨i,j,a,b,q⟩) (je fun _ _=>rfl) ha hb
def isInt:PyData→Option Int
 |.int x=>some x
 |_=>none
def eI:List PyData→Option (List Str)
 |[]=>some []
 |.str x::ds=>(eI ds).map fun xs=>x::xs
 |_::_=>none
def nq:List PyData→Option (List Int)
 |[]=>some []
 |.int x::ds=>(nq ds).map fun xs=>x::xs
 |_::_=>none
theorem fI:∀{ds:List PyData} {xs:List Str},eI ds=some xs→ds=xs.map .str
 |[],xs,h=>by cases h;rfl
 |d::ds,xs,h=>by
  cases d with
  |str x=>
   obtain⟨ys,e,rfl⟩:=Zab.mp h
   rw[fI e];rfl
  |_=>cases h
theorem jk:∀{ds:List PyData} {xs:List Int},nq ds=some xs→ds=xs.map .int
 |[],xs,h=>by cases h;rfl
 |d::ds,xs,h=>by
  cases d with
  |int x=>
   obtain⟨ys,e,rfl⟩:=Zab.mp h
   rw[jk e];rfl
  |_=>cases h
theorem gr{H:Hp}:∀{vs:List V} {xs:List Str},RpA K H vs (xs.map .str)→vs=xs.map .str
 |[],[],_=>rfl
 |v::vs,x::xs,.cons h r=>by cases h;rw[gr r];rfl
theorem kA{H:Hp}:∀{vs:List V} {xs:List Int},RpA K H vs (xs.map .int)→vs=xs.map .int
 |[],[],_=>rfl
 |v::vs,x::xs,.cons h r=>by cases h;rw[kA r];rfl
def AI:PyData→PyData→Option Bool
 |.str x,.str y=>some (!(Builtin.Str.occurrences y x 0 y.length 1).isEmpty)
 |.str x,.list ds=>(eI ds).map fun xs=>xs.contains x
 |.str x,.tuple ds=>(eI ds).map fun xs=>xs.contains x
 |.int x,.list ds=>(nq ds).map fun xs=>xs.contains x
 |.int x,.tuple ds=>(nq ds).map fun xs=>xs.contains x
 |_,_=>none
def Bz(K:Frag)(neg:Bool):R2:=fun x y H Q=>(∃i j,x=.str i∧y=.str j∧Q (.bl (if neg then !(!(Builtin.Str.occurrences j i 0 j.length 1).isEmpty)else !(Builtin.Str.occurrences j i 0 j.length 1).isEmpty)) H)∨CG K neg x y H Q
theorem oQ(x:Str)(xs:List Str):AE (.str x) (xs.map .str)=xs.contains x:=by
 induction xs with
 |nil=>rfl
 |cons y xs ih=>
  rw[List.contains_cons,←ih]
  show(wm (.str y) (.str x)||AE (.str x) (xs.map .str))=_
  congr 1
  show(y == x)=(x == y)
  exact BEq.comm
theorem oR(x:Int)(xs:List Int):AE (.int x) (xs.map .int)=xs.contains x:=by
 induction xs with
 |nil=>rfl
 |cons y xs ih=>
  rw[List.contains_cons,←ih]
  show(wm (.int y) (.int x)||AE (.int x) (xs.map .int))=_
  congr 1
  show(y == x)=(x == y)
  exact BEq.comm
theorem u8(neg:Bool):oC K (Bz K neg) (fun d1 d2=>(AI d1 d2).map fun b=>.bool (if neg then !b else b)):=fun d1 d2 d v1 v2 H Q e r1 r2=>by
 obtain⟨b,e',rfl⟩:=Zab.mp e
 clear e
 have e:=e'
 clear e'
 refine⟨_,rfl,fun q=>?_⟩
 have hs:∀xs:List Str,(xs.map V.str).all ga=true:=fun xs=>by simp[List.all_eq_true,ga]
 have hi:∀xs:List Int,(xs.map V.int).all ga=true:=fun xs=>by simp[List.all_eq_true,ga]
 unfold AI at e
 split at e
 ·cases e;cases r1;cases r2
  exact .inl ⟨_,_,rfl,rfl,q⟩
 ·obtain⟨xs,ex,rfl⟩:=Zab.mp e
  cases r1
  cases r2 with
  |lst h1 h2=>
   rw[fI ex]at h2
   rw[gr h2]at h1
   exact .inr ⟨_,_,rfl,.inl h1,rfl,hs _,by rw[oQ];exact q⟩
 ·obtain⟨xs,ex,rfl⟩:=Zab.mp e
  cases r1
  cases r2 with
  |tup h1 h2=>
   rw[fI ex]at h2
   rw[gr h2]at h1
   exact .inr ⟨_,_,rfl,.inr h1,rfl,hs _,by rw[oQ];exact q⟩
 ·obtain⟨xs,ex,rfl⟩:=Zab.mp e
  cases r1
  cases r2 with
  |lst h1 h2=>
   rw[jk ex]at h2
   rw[kA h2]at h1
   exact .inr ⟨_,_,rfl,.inl h1,rfl,hi _,by rw[oR];exact q⟩
 ·obtain⟨xs,ex,rfl⟩:=Zab.mp e
  cases r1
  cases r2 with
  |tup h1 h2=>
   rw[jk ex]at h2
   rw[kA h2]at h1
   exact .inr ⟨_,_,rfl,.inr h1,rfl,hi _,by rw[oR];exact q⟩
 ·cases e
def yD(neg:Bool):P2:=fF fun d1 d2=>(AI d1 d2).map fun b=>.bool (if neg then !b else b)
theorem u9:OpR X (compareOp .In) (Bz X.K false):=OpR.or sE sJ
theorem BA(ha:EX X a m1 f)(hb:EX X b m2 g)(hm:behindInMarks .In b=false:=by with_unfolding_all rfl):EX X (.Compare a [.In] [b] pos) (m1||m2) (af (yD false) m2 f g):=uG u9 (jd (u8 false)) ha hb hm
theorem BB(ha:EX X a m1 f)(hb:EX X b m2 g)(hm:behindInMarks .In b=false:=by with_unfolding_all rfl):TX X (.Compare a [.In] [b] pos) (m1||m2) (eL (af (yD false) m2 f g)):=m_ u9 (jd (u8 false)) ha hb hm
end
def ma(x:Str):PyData→Option PyData
 |.list ds=>(eI ds).bind fun ys=>if (ys.map (·.length)).sum+ys.length*x.length≤1000000 then some (.str (Txt.join x ys))else none
 |.tuple ds=>(eI ds).bind fun ys=>if (ys.map (·.length)).sum+ys.length*x.length≤1000000 then some (.str (Txt.join x ys))else none
 |_=>none
theorem me{ys:List Str}:∀{us:List Value},Vals (ys.map V.str) us→PyProof.Rows.StrsAre us ys:=by
 induction ys with
 |nil=>intro us h;cases h;exact .nil
 |cons y ys ih=>
  intro us h
  cases h with
  |cons h r=>
   obtain⟨t,rfl⟩:=h
   exact .cons y t (ih r)
def BC(K:Frag):V→List V→Hp→VK→Prop:=fun x vs H Q=>∃z p ys,x=.str z∧vs=[.ref p]∧(SqL K H p (ys.map .str)∨SqT K H p (ys.map .str))∧(ys.map (·.length)).sum+ys.length*z.length≤16777216∧Q (.str (Txt.join z ys)) H
theorem xk{X:Cx}:MtR X "str.join" (BC X.K):=by
 intro pins s σ H x vs v us Q I rx rv h
 obtain⟨z,p,ys,rfl,rfl,hq,hl,q⟩:=h
 obtain⟨t,rfl⟩:=rx
 obtain⟨u,rfl,ru⟩:=rv.one
 cases ru
 rcases hq with hq |hq
 ·obtain⟨its,r,pl,_⟩:=I.list hq
  exact PyProof.Rows.join_list pl.isList (by simpa using me r) hl fun t' k=>⟨.str _,H,I.tok _,⟨_,rfl⟩,q⟩
 ·obtain⟨its,r,pl,_⟩:=I.tuple hq
  exact PyProof.Rows.join_tuple pl (by simpa using me r) hl fun t' k=>⟨.str _,H,I.tok _,⟨_,rfl⟩,q⟩
section
variable {X:Cx} {e o:Expr} {m1 m2:Bool} {g:oz} {f h:aO} {p pos apos cpos:Pos} {K:Frag}
def fJ(x:Str)(f:aO):aO:=lD (ma x) f
theorem ka {x:Str} {j:Nat} {sp:Pos} (he:EX X e m1 f) (hs:starEach [e] X.env=[(false,eval e X.env)]:=by rfl) (hbase:attributeBase (.Constant (.str x) j sp) "join" X.env (eval (.Constant (.str x) j sp) X.env)=eval (.Constant (.str x) j sp) X.env:=by rfl)
  (hfew:((backTo cpos (starEach [e] X.env)).all (fun x=> !x.1)&&(backToKw cpos (keywordEach [] X.env)).all (fun x=>x.1.isSome)
   &&decide (([e]:List Expr).length+([]:List Keyword).length+(if ([]:List Keyword).isEmpty then 0 else 1) < 30))=true:=by rfl) (hline:(apos.endLine == cpos.line)=true:=by rfl):
  EX X (.Call (.Attribute (.Constant (.str x) j sp) "join" apos) [e] [] cpos) m1 (fJ x f):=by
 refine bv (yp PySem.F.plainAttrs_str PySem.F.slot_str_join PySem.F.type_str_join xk (uk) (cV he eW hs) hbase hfew hline hs rfl) fun σ H Q z=>?_
 obtain⟨B,E,xs,Xs,res,E',fr,c,e,q⟩:=z
 obtain⟨⟨s1,E1⟩,e1,e⟩:=Za.mp e
 obtain⟨d1,e2,e⟩:=Za.mp e
 obtain⟨d,e3,e⟩:=Zab.mp e
 cases e
 refine⟨rfl,B,E,xs,Xs,s1,E1,fr,c,e1,fun v1 H1 ⟨F,A,fr1⟩=>?_⟩
 have r:=(fr1.look0 e2).1
 obtain⟨A',fr2⟩:=fr1.pop
 unfold ma at e3
 split at e3
 ·obtain⟨ys,ey,e3⟩:=Za.mp e3
  split at e3
  ·rename_i hl
   cases e3
   cases r with
   |lst h1 h2=>
    rw[fI ey]at h2
    rw[gr h2]at h1
    exact⟨x,_,ys,rfl,rfl,.inl h1,by omega,q _ _ ⟨F,A',fr2.push ⟨rfl,_,rfl,.str _⟩⟩⟩
  ·cases e3
 ·obtain⟨ys,ey,e3⟩:=Za.mp e3
  split at e3
  ·rename_i hl
   cases e3
   cases r with
   |tup h1 h2=>
    rw[fI ey]at h2
    rw[gr h2]at h1
    exact⟨x,_,ys,rfl,rfl,.inr h1,by omega,q _ _ ⟨F,A',fr2.push ⟨rfl,_,rfl,.str _⟩⟩⟩
  ·cases e3
 ·cases e3
end
theorem kB{X:Cx}{st:Stmt}:SX X st (fun _=>none):=hJ um fun D σ H z=>by
 obtain⟨B,E,xs,Xs,E',fl,fr,cl,e,q⟩:=z
 cases e
def qm:cR:=fun _=>none
end PL
namespace PL
open PySem L2 Nh
theorem zT{X:Cx}:SlR X (fun x lo hi H Q=>∃z,x=.str z∧z.length≤sizeLine∧Q (.str (Txt.slice z lo hi)) H):=by
 intro pins s σ H x v vl vu lo hi sl Q I rx hs pl pu h
 obtain⟨z,rfl,hz,q⟩:=h
 obtain⟨t,rfl⟩:=rx
 cases pl with
 |none=>
  cases pu with
  |none=>exact⟨"str",_,PySem.F.slot_str_getitem.lookup,typeIs_str _ _ _,wpAny_getItem_str_slice (l:=none) (u:=none) (st:=none) hs rfl (post_val_or_str ⟨gG (Txt.slice_le z _ _) hz,fun t' k=>⟨.str _,H,I.tok _,⟨_,rfl⟩,q⟩⟩)⟩
  |int j uj=>exact⟨"str",_,PySem.F.slot_str_getitem.lookup,typeIs_str _ _ _,wpAny_getItem_str_slice (l:=none) (u:=some (j,uj)) (st:=none) hs rfl (post_val_or_str ⟨gG (Txt.slice_le z _ _) hz,fun t' k=>⟨.str _,H,I.tok _,⟨_,rfl⟩,q⟩⟩)⟩
 |int i ui=>
  cases pu with
  |none=>exact⟨"str",_,PySem.F.slot_str_getitem.lookup,typeIs_str _ _ _,wpAny_getItem_str_slice (l:=some (i,ui)) (u:=none) (st:=none) hs rfl (post_val_or_str ⟨gG (Txt.slice_le z _ _) hz,fun t' k=>⟨.str _,H,I.tok _,⟨_,rfl⟩,q⟩⟩)⟩
  |int j uj=>exact⟨"str",_,PySem.F.slot_str_getitem.lookup,typeIs_str _ _ _,wpAny_getItem_str_slice (l:=some (i,ui)) (u:=some (j,uj)) (st:=none) hs rfl (post_val_or_str ⟨gG (Txt.slice_le z _ _) hz,fun t' k=>⟨.str _,H,I.tok _,⟨_,rfl⟩,q⟩⟩)⟩
def oS(m2:Bool)(f:aO)(lo hi:zI):aO:=fun E=>(f E).bind fun a=>if m2&&a.1.isBr then none else (lo a.2).bind fun b=>(hi b.2).bind fun c=>match look c.2 a.1 with
 |some (.list ds)=>if !gR c.2 a.1||bx (qf ds b.1 c.1)then some (.ow (qf ds b.1 c.1),c.2)else none
 |some (.str z)=>if z.length≤1000000 then some (.sh (.str (Txt.slice z b.1 c.1)),c.2)else none
 |_=>none
theorem zU{X:Cx}{e:Expr}{lo hi:Option Expr}{m1 m2 m3:Bool}{f:aO}{g h:zI}{pos p2:Pos}(he:EX X e m1 f)(hl:OX X lo m2 g)(hh:OX X hi m3 h):EX X (.Subscript e (.Slice lo hi none p2) pos) (m1||(m2||m3)) (oS (m2||m3) f g h):=by
 refine bv (uA (SlR.or wO zT) he hl hh) fun σ H Q z=>?_
 obtain⟨B,E,xs,Xs,res,E',fr,cl,e,q⟩:=z
 obtain⟨⟨s,E1⟩,e1,e⟩:=Za.mp e
 by_cases hb:((m2||m3)&&s.isBr)=true
 ·rw[if_pos hb]at e;cases e
 rw[if_neg hb]at e
 have n1:(m2||m3)=true→s.isBr=false:=fun z=>by
  cases hs:s.isBr with
  |false=>rfl
  |true=>exact absurd (by rw[z,hs];rfl) hb
 obtain⟨⟨l,E2⟩,e2,e⟩:=Za.mp e
 obtain⟨⟨u,E3⟩,e3,e⟩:=Za.mp e
 refine⟨B,E,xs,Xs,s,E1,fr,fun z=>cl (by simp[z]),e1,fun v1 H1 fr1=>?_⟩
 refine⟨B,E1,v1::xs,s::Xs,l,E2,fr1,fun z=>Calm.cons (cl (by simp[z])) (n1 (by simp[z])),e2,fun H2 fr2=>?_⟩
 refine⟨B,E2,v1::xs,s::Xs,u,E3,fr2,fun z=>Calm.cons (cl (by simp[z])) (n1 (by simp[z])),e3,fun H3 ⟨F,A,fr3⟩=>?_⟩
 simp only at e
 split at e
 ·rename_i ds ld
  split at e
  ·rename_i hc
   cases e
   obtain⟨v,ev,r,f0⟩:=fr3.look (k:=0) rfl ld
   cases ev
   obtain⟨A',fr4⟩:=fr3.pop
   cases hh:gR E' s with
   |false=>
    obtain⟨a,vs,rfl,h1,h2⟩:=f0 hh
    exact .inl ⟨a,vs,rfl,h1,fun p hp=>q _ _ ⟨F,_,fr4.newl (h2.cut l u) hp⟩⟩
   |true=>
    rw[hh]at hc
    cases r with
    |lst h1 h2=>exact .inl ⟨_,_,rfl,h1,fun p hp=>q _ _ ⟨F,_,fr4.newl (fr3.coldA (h2.cut l u) (by simpa using hc)) hp⟩⟩
  ·cases e
 ·rename_i z ld
  split at e
  ·rename_i hc
   cases e
   have r:=(fr3.look0 ld).1
   cases r
   obtain⟨A',fr4⟩:=fr3.pop
   exact .inr ⟨_,rfl,eX hc,q _ _ ⟨F,A',fr4.push ⟨rfl,_,rfl,.str _⟩⟩⟩
  ·cases e
 ·cases e
def oT(scope:Scope)(env:Env):List (Str×Addr):=((scope.names.filter fun p=>p.2 ==.free).map fun p=>(p.1,(env.cells.lookup p.1).getD 0)).reverse
theorem dX{X:Cx}{scope:Scope}{N:List Str}{js:List (Option Nat)}(clos:closureFor scope X.env=pure (oT scope X.env):=by rfl)(nocell:∀y∈scope.names,y.2≠ .cell:=by decide+kernel)(kind:scope.kind=.function:=by rfl)
  (names:∀y∈scope.names,y.2=.local→scope.names.lookup y.1=some .local:=by decide+kernel) (same:(scope.names.filter fun p=>p.2 ==.free).all (fun p=>(X.env.cells.lookup p.1).isSome)=true:=by rfl)
  (has:(relabel scope X.env).names.all (fun y=> !(y.2 ==.cell||y.2 ==.free)||((oT scope X.env).lookup y.1).isSome)=true:=by rfl) (len:js.length=N.length:=by rfl)
  (fr:(js.zip N).all (fun p=>match p.1 with |none=>true |some j=>X.N[j]? == some p.2&&((relabel scope X.env).names.lookup p.2 == some .cell||(relabel scope X.env).names.lookup p.2 == some .free)&&(X.env.kindOf p.2 == some .cell||X.env.kindOf p.2 == some .free))=true:=by rfl):
  CompOk X scope (relabel scope X.env) (oT scope X.env) N js where
 clos:=clos
 rel:=rfl
 nocell:=nocell
 kind:=kind
 names:=names
 same:=fun x c e=>by
  have hm:=PySem.mem_of_lookup e
  unfold oT at hm
  obtain⟨p,hp,ep⟩:=List.mem_map.mp (List.mem_reverse.mp hm)
  have:=List.all_eq_true.mp same _ hp
  obtain⟨c',ec⟩:=Option.isSome_iff_exists.mp this
  injection ep with e1 e2
  subst e1
  rw[ec]at e2 ⊢
  exact congrArg some e2
 has:=fun x h=>by
  have key:∀k,(relabel scope X.env).names.lookup x=some k→(k == NameKind.cell||k == NameKind.free)=true→∃c,(oT scope X.env).lookup x=some c:=fun k h hk=>by
   have:=List.all_eq_true.mp has _ (PySem.mem_of_lookup h)
   simp only[hk,Bool.not_true,Bool.false_or]at this
   exact Option.isSome_iff_exists.mp this
  rcases h with h |h
  ·exact key _ h rfl
  ·exact key _ h rfl
 len:=len
 from_:=fun i j h=>by
  have hi:i < js.length:=(List.getElem?_eq_some_iff.mp h).1
  obtain⟨x,ex⟩:∃x,N[i]? =some x:=⟨N[i]'(by omega),pS (by omega)⟩
  have hz:(js.zip N)[i]? =some (some j,x):=by rw[List.getElem?_zip_eq_some];exact⟨h,ex⟩
  have:=List.all_eq_true.mp fr _ (List.mem_of_getElem? hz)
  simp only[pW,Bool.or_eq_true,beq_iff_eq]at this
  exact⟨x,ex,this.1.1,this.1.2,this.2⟩
structure Bn (mg:Str→Option Value):Prop where
 len:mg "len"=none
 range:mg "range"=none
 abs:mg "abs"=none
 min:mg "min"=none
 max:mg "max"=none
 reversed:mg "reversed"=none
 enumerate:mg "enumerate"=none
 isinstance:mg "isinstance"=none
 list:mg "list"=none
 tuple:mg "tuple"=none
 str:mg "str"=none
 int:mg "int"=none
 bool:mg "bool"=none
 sorted:mg "sorted"=none
 zip:mg "zip"=none
 sum:mg "sum"=none
 any:mg "any"=none
 all:mg "all"=none
 set:mg "set"=none
 dict:mg "dict"=none
theorem BD{K:Frag}{h:Heap}{mg:Str→Option Value}(X:K.In h)(G:h.Ns mainGlobals mg)
  (z1:nsIn K mainGlobals "len"=some none) (z2:nsIn K mainGlobals "range"=some none) (z3:nsIn K mainGlobals "abs"=some none) (z4:nsIn K mainGlobals "min"=some none) (z5:nsIn K mainGlobals "max"=some none) (z6:nsIn K mainGlobals "reversed"=some none) (z7:nsIn K mainGlobals "enumerate"=some none) (z8:nsIn K mainGlobals "isinstance"=some none) (z9:nsIn K mainGlobals "list"=some none) (z10:nsIn K mainGlobals "tuple"=some none) (z11:nsIn K mainGlobals "str"=some none) (z12:nsIn K mainGlobals "int"=some none) (z13:nsIn K mainGlobals "bool"=some none) (z14:nsIn K mainGlobals "sorted"=some none) (z15:nsIn K mainGlobals "zip"=some none) (z16:nsIn K mainGlobals "sum"=some none) (z17:nsIn K mainGlobals "any"=some none) (z18:nsIn K mainGlobals "all"=some none) (z19:nsIn K mainGlobals "set"=some none) (z20:nsIn K mainGlobals "dict"=some none):Bn mg:=
 ⟨mg_none_of X G z1,mg_none_of X G z2,mg_none_of X G z3,mg_none_of X G z4,mg_none_of X G z5,mg_none_of X G z6,mg_none_of X G z7,mg_none_of X G z8,mg_none_of X G z9,mg_none_of X G z10,mg_none_of X G z11,mg_none_of X G z12,mg_none_of X G z13,mg_none_of X G z14,mg_none_of X G z15,mg_none_of X G z16,mg_none_of X G z17,mg_none_of X G z18,mg_none_of X G z19,mg_none_of X G z20⟩
end PL
namespace PL
open PySem PySem.Spec L2 Nh PyProof.Rows
def CW(i:Int):Prop:= -1000000≤i∧i≤1000000
instance (i:Int):Decidable (CW i):=inferInstanceAs (Decidable (_∧_))
theorem fits{i:Int}(h: -10000000≤i∧i≤10000000):Builtin.Range.rangeFitsLong i=true:=by
 unfold Builtin.Range.rangeFitsLong
 simp only[pW,decide_eq_true_eq]
 omega
end PL
namespace PL
open PySem L2 Nh
section
variable {K:Frag} {B F:Hp} {A:List Addr} {σ:i8} {H H':Hp} {E:List Sl}
theorem DlOk.len:∀{us:List (cU×V)} {kvs:List (cU×List PyData)} {A:List Addr},DlOk K F H us kvs A→us.length=kvs.length
 |[],[],A,h=>rfl
 |p::us,q::kvs,A,h=>by
  obtain⟨l,vs,A',rfl,rfl,hl,hr,k⟩:=h
  simp[k.len]
 |[],_::_,_,h=>False.elim h
 |_::_,[],_,h=>False.elim h
end
end PL
namespace PL
open PySem L2 Nh
def fq:List PyData→Option (List Bool)
 |[]=>some []
 |.bool b::ds=>(fq ds).map (b:: ·)
 |_=>none
def xl:List PyData→Option PyData
 |[.list ds]=>(fq ds).map fun bs=>.bool (bs.any id)
 |_=>none
def jW:List PyData→Option PyData
 |[.list ds]=>(fq ds).map fun bs=>.bool (bs.all id)
 |_=>none
def ig(K:Frag)(f:List Bool→Bool):List V→Hp→VK→Prop:=fun xs H Q=>∃p bs,xs=[.ref p]∧SqL K H p (bs.map V.bl)∧Q (.bl (f bs)) H
theorem oU{K:Frag}{H:Hp}:∀{vs:List V} {ds:List PyData} {bs:List Bool},RpA K H vs ds→fq ds=some bs→vs=bs.map V.bl
 |_,_,bs,.nil,e=>by cases e;rfl
 |_,_,bs,.cons (d:=d) h t,e=>by
  cases d <;> simp[fq]at e
  obtain⟨cs,e,rfl⟩:=e
  cases h
  rw[oU t e]
  rfl
theorem kC{K:Frag}{f:List Bool→Bool}:xh K (ig K f) (fun ds=>match ds with
 |[.list ds]=>(fq ds).map fun bs=>.bool (f bs)
 |_=>none):=fun ds d vs H Q e r=>by
 simp only at e
 split at e
 ·obtain⟨bs,eb,rfl⟩:=Zab.mp e
  obtain⟨v,rfl,r1⟩:=r.one
  cases r1 with
  |lst h1 h2=>
   have:=oU h2 eb
   subst this
   exact⟨_,rfl,fun q=>⟨_,bs,rfl,h1,q⟩⟩
 ·cases e
theorem mf:∀bs:List Bool,(List.range bs.length).any (fun i=>bs.getD i false)=bs.any id
 |[]=>rfl
 |b::bs=>by
  rw[List.length_cons,List.range_succ_eq_map,List.any_cons,List.any_map,List.any_cons,←mf bs]
  rfl
theorem mh:∀bs:List Bool,(List.range bs.length).all (fun i=>bs.getD i false)=bs.all id
 |[]=>rfl
 |b::bs=>by
  rw[List.length_cons,List.range_succ_eq_map,List.all_cons,List.all_map,List.all_cons,←mh bs]
  rfl
section
variable {X:Cx} {e:Expr} {es:List Expr} {m1:Bool} {g:oz} {p pos:Pos}
theorem ii:∀{bs:List Bool} {us:List Value},Vals (bs.map V.bl) us→us=bs.map Value.bool
 |[],_,.nil=>rfl
 |b::bs,_,.cons h t=>by cases h;rw[ii t];rfl
theorem rC{bs:List Bool}{i:Nat}{v:Value}(h:(bs.map Value.bool).toArray[i]? =some v):v=.bool (bs.getD i false):=by
 rw[List.getElem?_toArray,qT]at h
 obtain⟨b,e,rfl⟩:=Zab.mp h
 rw[List.getD_eq_getElem?_getD,e]
 rfl
theorem sV(hc:X.calm=true):CallR X (.builtin "any") (ig X.K fun bs=>bs.any id):=by
 intro pins s σ H xs us Q I r h
 obtain⟨a,bs,rfl,hq,q⟩:=h
 cases r with
 |cons r rr=>
  cases rr
  cases r
  obtain⟨its,rv,pl,hz⟩:=I.list hq
  have:=ii rv
  subst this
  obtain⟨o,n,eo,_⟩:=id pl
  have hlt:a < s.heap.objs.size:=eB eo
  refine call_any_walk (wpAny_pyIter_list pl.isList ?_)
  refine⟨s.heap.objs.size,_,_,_,_,_,fun i=>bs.getD i false,rfl,Walks.list (A:=X.A.in1) (I.ok.hd hc) s.heap.objs.size a (eT hlt) (bs.map Value.bool).toArray,?_,?_,?_⟩
  ·exact⟨⟨_,gE _ rfl,rfl,rfl⟩,pl.isList.at fun o e=>dI _ e⟩
  ·intro i v s Q E hv hQ
   rw[rC hv]
   exact wpAny_truthy_bool hQ
  ·intro h' tk hk
   refine⟨.bl _,H,I.kept (t':=tk) fun b o e=>hk b o (fun z=>?_) (dI _ e),rfl,?_⟩
   ·have:b=s.heap.objs.size:=by simpa using z
    exact Nat.lt_irrefl _ (this▸eB e)
   ·rw[show((bs.map Value.bool).toArray).size=bs.length by simp,mf]
    exact q
theorem mj(hc:X.calm=true):CallR X (.builtin "all") (ig X.K fun bs=>bs.all id):=by
 intro pins s σ H xs us Q I r h
 obtain⟨a,bs,rfl,hq,q⟩:=h
 cases r with
 |cons r rr=>
  cases rr
  cases r
  obtain⟨its,rv,pl,hz⟩:=I.list hq
  have:=ii rv
  subst this
  obtain⟨o,n,eo,_⟩:=id pl
  have hlt:a < s.heap.objs.size:=eB eo
  refine call_all_walk (wpAny_pyIter_list pl.isList ?_)
  refine⟨s.heap.objs.size,_,_,_,_,_,fun i=>bs.getD i false,rfl,Walks.list (A:=X.A.in1) (I.ok.hd hc) s.heap.objs.size a (eT hlt) (bs.map Value.bool).toArray,?_,?_,?_⟩
  ·exact⟨⟨_,gE _ rfl,rfl,rfl⟩,pl.isList.at fun o e=>dI _ e⟩
  ·intro i v s Q E hv hQ
   rw[rC hv]
   exact wpAny_truthy_bool hQ
  ·intro h' tk hk
   refine⟨.bl _,H,I.kept (t':=tk) fun b o e=>hk b o (fun z=>?_) (dI _ e),rfl,?_⟩
   ·have:b=s.heap.objs.size:=by simpa using z
    exact Nat.lt_irrefl _ (this▸eB e)
   ·rw[show((bs.map Value.bool).toArray).size=bs.length by simp,mh]
    exact q
theorem zV (hc:X.calm=true) (hg:Gl X "any") (hm:X.mg "any"=none) (ha:AX X [e] m1 g) (he:starEach [e] X.env=[(false,eval e X.env)]:=by rfl):EX X (.Call (.Name "any" p) [e] [] pos) m1 (bJ xl g):=iM (r:=ig X.K fun bs=>bs.any id) kC (sV hc) hg hm PyProof.Rows.boot_any ha (by decide) (by decide) he rfl
theorem u_ (hc:X.calm=true) (hg:Gl X "all") (hm:X.mg "all"=none) (ha:AX X [e] m1 g) (he:starEach [e] X.env=[(false,eval e X.env)]:=by rfl):EX X (.Call (.Name "all" p) [e] [] pos) m1 (bJ jW g):=iM (r:=ig X.K fun bs=>bs.all id) kC (mj hc) hg hm PyProof.Rows.boot_all ha (by decide) (by decide) he rfl
theorem gI:∀{ns:List Int} {us:List Value},Vals (ns.map V.int) us→us.length=ns.length∧∀(i:Nat) (v:Value),us[i]? =some v→∃t,v=Value.int (ns.getD i 0) t
 |[],_,.nil=>⟨rfl,fun i v h=>by simp at h⟩
 |n::ns,_,.cons h t=>by
  obtain⟨tk,rfl⟩:=h
  obtain⟨h1,h2⟩:=gI t
  refine⟨by simp[h1],fun i v h=>?_⟩
  cases i with
  |zero=>simp at h;subst h;exact⟨tk,rfl⟩
  |succ i=>simpa using h2 i v (by simpa using h)
end
end PL
namespace PL
open PySem L2 Nh
theorem SAll.memA{P:Option V→Sl→List Addr→Prop}{os:List (Option V)}{ss:List Sl}{A:List Addr}{k:Nat}{s:Sl}(h:SAll P os ss A)(e:ss[k]? =some s):∃o A1,os[k]? =some o∧P o s A1∧∀a∈A1,a∈A:=by
 obtain⟨o,A0,A1,A2,eA,eo,hp,_⟩:=h.at e
 exact⟨o,A1,eo,hp,fun a ha=>by rw[eA];exact iD _ (List.mem_append_left _ ha)⟩
theorem SAll.two{P:Option V→Sl→List Addr→Prop}:∀{os:List (Option V)} {ss:List Sl} {A:List Addr} {i j:Nat} {s t:Sl},SAll P os ss A→ss[i]? =some s→ss[j]? =some t→i≠j→A.Nodup→
  ∃o1 A1 o2 A2,os[i]? =some o1∧P o1 s A1∧os[j]? =some o2∧P o2 t A2∧(∀a∈A1,a∈A)∧(∀a∈A2,a∈A)∧∀a∈A1,a∉A2
 |_,_,_,_,_,_,_,.nil,e,_,_,_=>by simp at e
 |_,_,_,0,0,_,_,.cons h r,_,_,n,_=>absurd rfl n
 |_,_,_,0,j+1,s,t,.cons (o:=o) (A:=A) (B:=B) h r,e1,e2,_,nd=>by
  simp at e1
  subst e1
  obtain⟨o2,A2,eo,hp,sub⟩:=r.memA (k:=j) (by simpa using e2)
  exact⟨o,A,o2,A2,rfl,h,by simpa using eo,hp,fun a ha=>List.mem_append_left _ ha,fun a ha=>iD _ (sub a ha),fun a ha hb=>(Zba.mp nd).2.2 a ha a (sub a hb) rfl⟩
 |_,_,_,i+1,0,s,t,.cons (o:=o) (A:=A) (B:=B) h r,e1,e2,_,nd=>by
  simp at e2
  subst e2
  obtain⟨o2,A2,eo,hp,sub⟩:=r.memA (k:=i) (by simpa using e1)
  exact⟨o2,A2,o,A,by simpa using eo,hp,rfl,h,fun a ha=>iD _ (sub a ha),fun a ha=>List.mem_append_left _ ha,fun a ha hb=>(Zba.mp nd).2.2 a hb a (sub a ha) rfl⟩
 |_,_,_,i+1,j+1,s,t,.cons (o:=o) (A:=A) (B:=B) h r,e1,e2,n,nd=>by
  obtain⟨o1,A1,o2,A2,q1,q2,q3,q4,q5,q6,q7⟩:=r.two (i:=i) (j:=j) (by simpa using e1) (by simpa using e2) (fun z=>n (by rw[z])) (Zba.mp nd).2.1
  exact⟨o1,A1,o2,A2,by simpa using q1,q2,by simpa using q3,q4,fun a ha=>iD _ (q5 a ha),fun a ha=>iD _ (q6 a ha),q7⟩
end PL
namespace NhMaxD
open PySem PyProof.Rows
theorem va(a d:Value):argsOk "max" ⟨[a],[("default",d)]⟩:=by unfold argsOk;kernel_rfl
section
variable {prog:Program} {w:World} {A:Around} {E:Value→Shared→Prop} {R:Result→Shared→Prop} {I:Addr} {fp wr:List Addr} {St:Nat→Heap→Prop}
abbrev BE(h:Heap)(S:Addr)(vs:Array Value):Prop:=∃c,h.get? S=some {cls:=.type "list",dict:=none,data:=.seq vs c,slots:=#[]}
theorem mR{ns:List Int}(W:Walks prog w A.in1 I fp wr ns.length (fun i v=>∃t,v=.int (ns.getD i 0) t) St)(S:Addr)(hSf:S∉fp)(d:Value):
  ∀(k j:Nat) (s:Shared) (m:Int) (t:Tok),ns.length - j=k→j≤ns.length→St j s.heap→BE s.heap S #[.int m t,.int m t]→
   (∀t' h' tk,(∀b o,b∉S::wr→s.heap.get? b=some o→h'.get? b=some o)→R (.ok (.ret (.int ((ns.drop j).foldl max m) t'))) {s with heap:=h',toks:=tk})→
   codeAny (model prog w) A (.builtin "max.loop" ⟨[.ref I,.none,.ref S],[("default",d)]⟩) R s:=by
 have hSw:S∉wr:=fun h=>hSf (W.sub _ h)
 have hnm:(toString "max"++toString ".loop":String)="max.loop":=by decide
 intro k
 induction k with
 |zero=>
  rintro j s m t hk hj st ⟨c,hS⟩ hR
  have hjn:j=ns.length:=by omega
  refine codeAny_builtin PySem.F.entry_max_loop ?_
  rw[Around.under_plainId PySem.F.plain_max_loop _]
  refine wpAny_bind (m:=seqItems? (.ref S)) (wpAny_seqItems hS rfl ?_)
  refine wpAny_bind (m:=tryCatch (pyNext (.ref I)) _) (wpAny_tryCatch (W.done s _ _ (by rw[←hjn];exact st) fun h' tk kp=>?_))
  refine wpAny_bind (m:=updateSeq S (fun _=>#[])) (wpAny_updateSeq (kp S _ hSw hS) rfl (wpAny_bind (wpAny_letGo (wpAny_pure ?_))))
  have e:(ns.drop j).foldl max m=m:=by rw[hjn,List.drop_length];rfl
  rw[e]at hR
  exact hR t _ tk fun b o hb q=>(Heap.get?_update_other _ _ (fun z:S=b=>hb (by rw[←z];exact f_ ..))).trans (kp b o (fun z=>hb (fD _ z)) q)
 |succ k ih=>
  rintro j s m t hk hj st ⟨c,hS⟩ hR
  have hlt:j < ns.length:=by omega
  refine codeAny_builtin PySem.F.entry_max_loop ?_
  rw[Around.under_plainId PySem.F.plain_max_loop _]
  refine wpAny_bind (m:=seqItems? (.ref S)) (wpAny_seqItems hS rfl ?_)
  refine wpAny_bind (m:=tryCatch (pyNext (.ref I)) _) (wpAny_tryCatch (W.item j s _ _ hlt st fun v h' tk hv st' kp=>?_))
  obtain⟨u,rfl⟩:=hv
  have hS':=kp S _ hSw hS
  have eg:ns.getD j 0=ns[j]:=by simp[hlt]
  rw[eg]
  have ed:(ns.drop j).foldl max m=(ns.drop (j+1)).foldl max (max m ns[j]):=by rw[List.drop_eq_getElem_cons hlt,List.foldl_cons]
  rw[ed]at hR
  have cmp:=CmpOf.ints_gt (prog:=prog) (w:=w) (A:=A.in1) (P:=fun i v=>∃t,v=.int (if i=0 then ns[j]else m) t) (fun i=>if i=0 then ns[j]else m) (fun _ _ z=>z)
  refine wpAny_bind (m:=tryCatch (holding [.int ns[j] u,.int ns[j] u] (richCompare .Gt (.int ns[j] u) (.int m t) >>= _)) _) (wpAny_tryCatch (wpAny_holding (wpAny_bind (cmp 0 1 _ _ _ _ _ ⟨u,rfl⟩ ⟨t,rfl⟩ ?_))))
  refine wpAny_bind (wpAny_holding (wpAny_truthy_bool ?_))
  refine wpAny_bind (wpAny_letGo (wpAny_pure ?_))
  simp only[Nat.one_ne_zero,ca]
  by_cases hb:ns[j] > m
  ·simp only[hb,ca]
   refine wpAny_bind (wpAny_updateSeq hS' rfl (wpAny_bind (wpAny_letGo ?_)))
   rw[hnm]
   rw[show max m ns[j]=ns[j] by omega]at hR
   refine wpAny_pure ⟨plainId_quiet PySem.F.plain_max_loop _,ih (j+1) _ ns[j] u (by omega) hlt (W.frame _ _ _ st' fun b hbf o e=>?_) ⟨_,Heap.get?_update_self _ hS' rfl⟩ fun t' h2 tk2 k2=>?_⟩
   ·exact(Heap.get?_update_other _ _ (fun z:S=b=>hSf (by rw[z];exact hbf))).trans e
   ·exact hR t' h2 tk2 fun b o hbb e=>k2 b o hbb ((Heap.get?_update_other _ _ (fun z:S=b=>hbb (by rw[←z];exact f_ ..))).trans (kp b o (fun z=>hbb (fD _ z)) e))
  ·simp only[hb,ca]
   refine wpAny_bind (wpAny_letGo ?_)
   rw[hnm]
   rw[show max m ns[j]=m by omega]at hR
   refine wpAny_pure ⟨plainId_quiet PySem.F.plain_max_loop _,ih (j+1) _ m t (by omega) hlt st' ⟨_,hS'⟩ fun t' h2 tk2 k2=>?_⟩
   exact hR t' h2 tk2 fun b o hbb e=>k2 b o hbb (kp b o (fun z=>hbb (fD _ z)) e)
def Cs:List Int→Int→Int
 |[],d=>d
 |n::r,_=>r.foldl max n
theorem call{s:Shared}{l:Addr}{items:Array Value}{ns:List Int}{d:Int}{td:Tok}{Q:Value→Shared→Prop}(hh:A.handled=none)(hl:s.heap.IsList l items)(hi:IntsAre items.toList ns)
  (h:∀t h' tk,(∀b o,s.heap.get? b=some o→h'.get? b=some o)→Q (.int (Cs ns d) t) {s with heap:=h',toks:=tk}):
  wpAny (model prog w) A (PySem.call (.builtin "max") [.ref l] [("default",.int d td)]) Q E s:=by
 have hnm:(toString "max"++toString ".loop":String)="max.loop":=by decide
 refine wpAny_call (codeAny_call_builtin PySem.F.plain_max PySem.F.entry_max ?_)
 simp only[checkBuiltinCall,PySem.F.kind_max]
 have key:wpAny (model prog w) A.in1 (Builtin.«max» ⟨[.ref l],[("default",.int d td)]⟩) (fun fin s'=>match fin with
   |.done f=>(match (Except.ok f:Result)with |.ok (.ret v)=>Q v s' |.ok _=>False |.error e=>E e s')
   |.again c'=>c'.quiet=true∧codeAny (model prog w) A c' (fun r s'=>match r with |.ok (.ret v)=>Q v s' |.ok _=>False |.error e=>E e s') s') E s:=by
  refine wpAny_bind (m:=Builtin.Builtins.bindParams "max" ["key","default"] 0 ⟨[],[("default",.int d td)]⟩) (wpAny_of_eq (a:=[none,some (.int d td)]) rfl ?_)
  refine wpAny_bind (wpAny_pure ?_)
  refine wpAny_bind (wpAny_pyIter_list hl ?_)
  refine wpAny_bind (wpAny_newObj_type ?_)
  rw[hnm]
  have hlen:items.size=ns.length:=by have:=hi.length;simpa using this
  have hlt:l < s.heap.objs.size:=let ⟨_,ho,_⟩:=hl;eB ho
  have hI:(s.heap.push {cls:=.type "list_iterator",data:=.fields #[.ref l,.int 0 0]}).objs.size=s.heap.objs.size+1:=by rw[Heap.size_push]
  have W0:=Walks.list (prog:=prog) (w:=w) (A:=A.in1) (by simpa using hh) s.heap.objs.size l (eT hlt) items
  have W:Walks prog w A.in1 s.heap.objs.size [s.heap.objs.size,l] [s.heap.objs.size] ns.length (fun i v=>∃t,v=.int (ns.getD i 0) t) (fun i h=>h.IsListIter s.heap.objs.size l i∧h.IsList l items):=by
   rw[←hlen]
   exact⟨W0.sub,W0.frame,fun i s Q E hi' st hQ=>W0.item i s Q E hi' st fun v h' tk hv st' kp=>hQ v h' tk (IntsAre.int_at hi i v (by rw[Array.getElem?_toList];exact hv)) st' kp,W0.done,W0.self⟩
  have hSf:(s.heap.push {cls:=.type "list_iterator",data:=.fields #[.ref l,.int 0 0]}).objs.size∉[s.heap.objs.size,l]:=by
   rw[hI]
   intro z
   rcases Zap.mp z with z |z
   ·exact absurd z (Nat.ne_of_gt (Nat.lt_succ_self _))
   ·exact absurd (Zaf.mp z) (Nat.ne_of_gt (n_ hlt))
  have st0:∀o,(fun i (h:Heap)=>h.IsListIter s.heap.objs.size l i∧h.IsList l items) 0 ((s.heap.push {cls:=.type "list_iterator",data:=.fields #[.ref l,.int 0 0]}).push o):=fun o=>
   ⟨⟨_,dI _ (gE _ rfl),rfl,rfl⟩,(hl.push _).push _⟩
  have old:∀b o q,s.heap.get? b=some o→((s.heap.push {cls:=.type "list_iterator",data:=.fields #[.ref l,.int 0 0]}).push q).get? b=some o∧b∉[(s.heap.push {cls:=.type "list_iterator",data:=.fields #[.ref l,.int 0 0]}).objs.size,s.heap.objs.size]:=fun b o q e=>by
   have hb:=eB e
   refine⟨dI _ (dI _ e),fun z=>?_⟩
   rw[hI]at z
   rcases Zap.mp z with z |z
   ·exact absurd z (eT (n_ hb))
   ·exact absurd (Zaf.mp z) (eT hb)
  refine wpAny_pure ⟨plainId_quiet PySem.F.plain_max_loop _,codeAny_builtin PySem.F.entry_max_loop ?_⟩
  rw[Around.under_plainId PySem.F.plain_max_loop _]
  refine wpAny_bind (m:=seqItems? (.ref _)) (wpAny_seqItems (gE _ rfl) rfl ?_)
  cases ns with
  |nil=>
   refine wpAny_bind (m:=tryCatch (pyNext (.ref s.heap.objs.size)) _) (wpAny_tryCatch (W.done _ _ _ (st0 _) fun h' tk kp=>?_))
   refine wpAny_bind (wpAny_rule (wpAny_pure ?_))
   exact h td h' tk fun b o e=>kp b o (fun z=>(old b o {cls:=.none} e).2 (fD _ z)) (old b o _ e).1
  |cons n r=>
   refine wpAny_bind (m:=tryCatch (pyNext (.ref s.heap.objs.size)) _) (wpAny_tryCatch (W.item 0 _ _ _ (by simp) (st0 _) fun v h' tk hv st' kp=>?_))
   obtain⟨u,rfl⟩:=hv
   have hS':=kp _ _ (fun z=>hSf (W.sub _ z)) (gE _ rfl)
   refine wpAny_bind (m:=updateSeq _ (fun _=>#[.int n u,.int n u])) (wpAny_updateSeq hS' rfl ?_)
   rw[hnm]
   refine wpAny_pure ⟨plainId_quiet PySem.F.plain_max_loop _,mR W _ hSf _ _ 1 _ n u rfl (by simp) (W.frame _ _ _ st' fun b hbf o e=>?_) ⟨_,Heap.get?_update_self _ hS' rfl⟩ fun t' h2 tk2 k2=>?_⟩
   ·exact(Heap.get?_update_other _ _ (fun z=>hSf (by rw[z];exact hbf))).trans e
   ·refine h t' h2 tk2 fun b o e=>k2 b o (old b o {cls:=.none} e).2 ((Heap.get?_update_other _ _ (fun z=>(old b o {cls:=.none} e).2 (by rw[←z];exact f_ ..))).trans (kp b o (fun z=>(old b o {cls:=.none} e).2 (fD _ z)) (old b o _ e).1))
 cases hsig:Manifest.signature? "max" with
 |none=>exact wpAny_pure key
 |some sig=>
  have ha:=va (.ref l) (.int d td)
  simp only[argsOk,hsig]at ha
  show wpAny _ A.in1 (Bind.checkArgs "max" sig ⟨[.ref l],[("default",.int d td)]⟩) _ _ s
  rw[show Bind.checkArgs "max" sig ⟨[.ref l],[("default",.int d td)]⟩=pure ()from ha]
  exact wpAny_pure key
end
end NhMaxD
namespace PL
open PySem L2 Nh
def nY(a b:Str):Bool:=decide (a.cps.toList≤b.cps.toList)
def gc(ss:List Str):List Str:=ss.mergeSort nY
theorem gM(a b c:Str)(h:nY a b=true)(k:nY b c=true):nY a c=true:=decide_eq_true (List.le_trans (of_decide_eq_true h) (of_decide_eq_true k))
theorem jl(a b:Str):(nY a b||nY b a)=true:=by
 rcases List.le_total a.cps.toList b.cps.toList with h |h
 ·simp[nY,h]
 ·simp[nY,h]
theorem kD{a b:Str}(h:nY a b=true)(k:nY b a=true):a=b:=by
 have e:=List.le_antisymm (of_decide_eq_true h) (of_decide_eq_true k)
 cases a;cases b
 simp only at e
 rw[Array.toList_inj.mp e]
theorem ml:∀(p:Str) (l:List Str),PyProof.Rows.risingS p l=true→(p::l).Pairwise (fun a b=>nY a b=true)
 |p,[],_=>by simp
 |p,x::r,h=>by
  have h':(!PySem.Spec.ltCps x.cps.toList p.cps.toList&&PyProof.Rows.risingS x r)=true:=h
  rw[pW,PyProof.Rows.ltCps_eq]at h'
  have ih:=ml x r h'.2
  have hpx:nY p x=true:=by
   have:=h'.1
   simp only[Bool.not_eq_true',decide_eq_false_iff_not]at this
   exact decide_eq_true this
  refine List.pairwise_cons.mpr ⟨fun y hy=>?_,ih⟩
  rcases Zap.mp hy with rfl |hy
  ·exact hpx
  ·exact gM p x y hpx ((List.pairwise_cons.mp ih).1 y hy)
theorem sW:∀l:List Str,PyProof.Rows.sortedS l=true→l.Pairwise (fun a b=>nY a b=true)
 |[],_=>List.Pairwise.nil
 |x::r,h=>ml x r h
theorem kE{a b:List Str}(p:a.Perm b)(h:PyProof.Rows.sortedS a=true):a=gc b:=
 List.Perm.eq_of_pairwise (fun _ _ _ _ h k=>kD h k) (sW a h) (List.pairwise_mergeSort gM jl b) (p.trans (List.mergeSort_perm b nY).symm)
theorem jm(ss:List Str):(gc ss).length=ss.length:=(List.mergeSort_perm ss nY).length_eq
section
variable {X:Cx} {e:Expr} {m1:Bool} {f:aO} {p pos:Pos}
theorem kF:∀{ss:List Str} {us:List Value},Vals (ss.map V.str) us→PyProof.Rows.StrsAre us ss
 |[],_,.nil=>.nil
 |s::ss,_,.cons h t=>by obtain⟨tk,rfl⟩:=h;exact .cons _ _ (kF t)
theorem kG:∀{ss:List Str} {us:List Value},PyProof.Rows.StrsAre us ss→Vals (ss.map V.str) us
 |[],_,.nil=>.nil
 |_::_,_,.cons y t h=>.cons ⟨t,rfl⟩ (kG h)
theorem nr:CallR X (.builtin "sorted") (fun xs H Q=>∃(p:Addr) (ss:List Str),xs=[.ref p]∧SqL X.K H p (ss.map V.str)∧ss.length < 64∧∀l,H l=none→Q (.ref l) (upd H l (.lst ((gc ss).map V.str)))):=by
 intro pins s σ H xs us Q I r h
 obtain⟨p,ss,rfl,hq,h64,q⟩:=h
 cases r with
 |cons r rr=>
  cases rr
  cases r
  obtain⟨its,rv,pl,hz⟩:=I.list hq
  have hS:=kF rv
  have hl:its.length=ss.length:=by have:=rv.length;simpa using this.symm
  refine PyProof.Rows.sorted_strs pl.isList hS (by omega) fun out ss' a1 a2 a3=>?_
  have:=kE a2 a3
  subst this
  obtain⟨e,he⟩:=PyProof.Rows.sortedAll_at s.heap its out
  refine⟨.ref (s.heap.objs.size+1),_,I.laid (t':=s.toks) (fun b o=>PyProof.Rows.sortedAll_old) (Nat.le_succ _) (show ObjOk X.prog X.w _ _ _ (.lst ((gc ss).map V.str))from⟨?_,out.toList,e,kG a1,he⟩),rfl,q _ (I.hok.fresh (Nat.le_succ _))⟩
  rw[dv,jm]
  exact eX (by omega)
def gW:List PyData→Option (List Str)
 |[]=>some []
 |.str x::ds=>(gW ds).map (x:: ·)
 |_=>none
theorem ke{K:Frag}{H:Hp}:∀{vs:List V} {ds:List PyData} {bs:List Str},RpA K H vs ds→gW ds=some bs→vs=bs.map V.str
 |_,_,bs,.nil,e=>by cases e;rfl
 |_,_,bs,.cons (d:=d) h t,e=>by
  cases d <;> simp[gW]at e
  obtain⟨cs,e,rfl⟩:=e
  cases h
  rw[ke t e]
  rfl
theorem gu{K:Frag}{H:Hp}:∀ss:List Str,RpA K H (ss.map V.str) (ss.map PyData.str)
 |[]=>.nil
 |s::ss=>.cons (.str s) (gu ss)
def iO(g:aO):aO:=fun E=>(g E).bind fun a=>match look a.2 a.1 with
 |some (.list ds)=>(gW ds).bind fun ss=>if ss.length < 64 then some (.ow ((gc ss).map .str),a.2)else none
 |_=>none
theorem sX (hg:Gl X "sorted") (hm:X.mg "sorted"=none) (ha:EX X e m1 f) (he:starEach [e] X.env=[(false,eval e X.env)]:=by rfl):EX X (.Call (.Name "sorted" p) [e] [] pos) m1 (iO f):=by
 refine bv (iF nr hg hm PyProof.Rows.boot_sorted (cV ha eW he) (by decide) (by decide) he rfl) fun σ H Q z=>?_
 obtain⟨B,E,xs,Xs,res,E',fr,cl,e,q⟩:=z
 obtain⟨⟨s,E1⟩,e1,e⟩:=Za.mp e
 refine⟨B,E,xs,Xs,s,E1,fr,cl,e1,fun v1 H1 ⟨F,A,fr1⟩=>?_⟩
 obtain⟨A',fr2⟩:=fr1.pop
 simp only at e
 split at e
 ·rename_i ds ld
  obtain⟨ss,es,e⟩:=Za.mp e
  split at e
  ·rename_i hc
   cases e
   have r:=(fr1.look0 ld).1
   cases r with
   |lst h1 h2=>
    have:=ke h2 es
    subst this
    exact⟨_,ss,rfl,h1,hc,fun l hl=>q _ _ ⟨F,_,fr2.newl (gu _) hl⟩⟩
  ·cases e
 ·cases e
end
end PL
namespace PL
open PySem L2 Nh
def wn(ks:List Str)(x:Str):List Str:=if x∈ks then ks else ks++[x]
def gv(ss:List Str):List Str:=ss.foldl wn []
def iP(x:Str):List Str:=x.cps.toList.map fun c=>⟨#[c]⟩
def dY(g:aO):aO:=fun E=>(g E).bind fun a=>match look a.2 a.1 with
 |some (.list ds)=>(gW ds).bind fun ss=>if ss.length < 4000∧(gv ss).length < 64 then some (.ow ((gc (gv ss)).map .str),a.2)else none
 |some (.str x)=>if (iP x).length < 4000∧(gv (iP x)).length < 64 then some (.ow ((gc (gv (iP x))).map .str),a.2)else none
 |_=>none
end PL
namespace NhSet
open PySem PyProof.Rows
structure SS (w:World) (b:Bool) (ks:List Str) (es:Array (Int×Value)) (t:SetTable):Prop where
 perm:(es.toList.map (fun e=>strOf e.2)).Perm ks
 elems:∀e∈es.toList,∃x tk,e=(hashStr w x,Value.str x tk)
 bound:es.size < scanBound
 fits:t.fits es.size=true
 led:t.led=b
 plain:es.size≠0→t.plain=false
abbrev bV(es:Array (Int×Value))(ep:Nat)(t:SetTable):Obj:={cls:=.type "set",dict:=none,data:=.set es ep t}
def StrSet(w:World)(h:Heap)(a:Addr)(b:Bool)(ks:List Str):Prop:=∃es ep t,h.get? a=some (bV es ep t)∧SS w b ks es t
theorem StrSet.at'{w:World}{h h':Heap}{a:Addr}{b:Bool}{ks:List Str}(S:StrSet w h a b ks)(e:∀o,h.get? a=some o→h'.get? a=some o):StrSet w h' a b ks:=
 let ⟨es,ep,t,ho,r⟩:=S;⟨es,ep,t,e _ ho,r⟩
theorem StrSet.obj{w:World}{h:Heap}{a:Addr}{b:Bool}{ks:List Str}(S:StrSet w h a b ks):∃o,h.get? a=some o:=let ⟨_,_,_,ho,_⟩:=S;⟨_,ho⟩
theorem StrSet.typeIs{w:World}{s:Shared}{a:Addr}{b:Bool}{ks:List Str}(S:StrSet w s.heap a b ks):s.TypeIs (.ref a) "set":=let ⟨_,_,_,ho,_⟩:=S;⟨_,ho,rfl⟩
theorem SS.elemsOf{prog:Program}{w:World}{b:Bool}{ks:List Str}{es:Array (Int×Value)}{t:SetTable}(S:SS w b ks es t):ElemsOf (strKind prog w) es.toList:=fun e he=>by
 obtain⟨x,tk,rfl⟩:=S.elems e he
 exact⟨⟨x,by simp[PySem.strKind,Value.isStrOf],rfl⟩,rfl⟩
theorem SS.len{w:World}{b:Bool}{ks:List Str}{es:Array (Int×Value)}{t:SetTable}(S:SS w b ks es t):es.size=ks.length:=by
 have:=S.perm.length_eq;simpa using this
theorem SS.mem{w:World}{b:Bool}{ks:List Str}{es:Array (Int×Value)}{t:SetTable}(S:SS w b ks es t)(x:Str):x∈ks↔∃e∈es.toList,Value.isStrOf x e.2=true:=by
 rw[←S.perm.mem_iff,List.mem_map]
 constructor
 ·rintro⟨e,he,rfl⟩
  obtain⟨y,tk,rfl⟩:=S.elems e he
  exact⟨_,he,by simp[Value.isStrOf,strOf]⟩
 ·rintro⟨e,he,hx⟩
  obtain⟨y,tk,rfl⟩:=S.elems e he
  have:y=x:=by simpa[Value.isStrOf]using hx
  exact⟨_,he,by simp[strOf,this]⟩
theorem SetTable.orStandIn_led(t:SetTable)(n:Nat):(t.orStandIn n).led=t.led:=by
 unfold SetTable.orStandIn;split <;> rfl
theorem qo(t:SetTable)(es:Array (Int×Value))(h:Int)(x:Value):(layNew t es h x).2.1.led=t.led:=by
 unfold layNew
 split
 ·exact SetTable.orStandIn_led _ _
 ·rfl
theorem qp{mask finger moves:Nat}{led plain:Bool}{hashes:Array Int}{t':SetTable}{order:Array Nat}(h:SetTable.laid mask finger moves led plain hashes=some (t',order)):t'.led=led∧t'.plain=plain:=by
 unfold SetTable.laid at h
 cases hc:SetTable.layClean mask hashes with
 |none=>rw[hc]at h;simp at h
 |some ow=>rw[hc]at h;simp at h;rw[←h.1];exact⟨rfl,rfl⟩
theorem kH(t:SetTable)(es:Array (Int×Value))(wanted:Nat)(hp:t.plain=false):(relayAll t es wanted).2.1.led=t.led∧(relayAll t es wanted).2.1.plain=false:=by
 unfold relayAll
 split
 ·rename_i t' order hr
  dsimp only
  split
  ·have:=qp hr
   exact⟨this.1,this.2.trans hp⟩
  ·exact⟨rfl,rfl⟩
 ·exact⟨rfl,rfl⟩
section
variable {prog:Program} {w:World} {A:Around} {E:Value→Shared→Prop} {s:Shared}
theorem lE(es es':Array (Int×Value))(ep:Nat)(t t':SetTable):Obj.putSet es' t' (bV es ep t)=bV es' (ep+1) t':=rfl
theorem oV{h:Heap}{a:Addr}{es es':Array (Int×Value)}{ep:Nat}{t t':SetTable}(ho:h.get? a=some (bV es ep t)):(h.update a (Obj.putSet es' t')).get? a=some (bV es' (ep+1) t'):=
 Heap.get?_update_self (Obj.putSet es' t') ho (by rw[lE];rfl)
theorem rD{g:Bool→Sem Unit}(hg:∀(b:Bool) (s₁:Shared) (Q':Unit→Shared→Prop),Q' () s₁→wpAny (model prog w) A (g b) Q' E s₁)
  {a:Addr} {es:Array (Int×Value)} {ep:Nat} {t:SetTable} (ho:s.heap.get? a=some (bV es ep t))
  {es1:Array (Int×Value)} {t2:SetTable} {b:Bool} {ks:List Str} (S:SS w b ks es1 t2) (hp:t2.plain=false) {wasDummy:Bool} {R:Option Bool→Shared→Prop}
  (h:∀h',Heap.SameBut a s.heap h'→StrSet w h' a b ks→R (some true) {s with heap:=h'}):
  wpAny (model prog w) A (do
    storeSet a es1 t2
    if (!wasDummy&&t2.tooFull)=true then do
      g (relayAll t2 es1 (SetTable.grown es1.size)).2.2
      storeSet a (relayAll t2 es1 (SetTable.grown es1.size)).1 (relayAll t2 es1 (SetTable.grown es1.size)).2.1
      pure (some true)
     else pure (some true)) R E s:=by
 refine wpAny_bind (wpAny_storeSet_of ho rfl ?_ (fits_of_scanBound S.bound))
 have ho1:=oV (es':=es1) (t':=t2) ho
 have hsb1:=Heap.SameBut.update s.heap a (Obj.putSet es1 t2)
 split
 ·have hpm:=relayAll_perm t2 es1 (SetTable.grown es1.size)
  have hfr:=relayAll_fits t2 es1 (SetTable.grown es1.size)
  have hmk:=kH t2 es1 (SetTable.grown es1.size) hp
  generalize hRl:relayAll t2 es1 (SetTable.grown es1.size)=Rl at hpm hfr hmk ⊢
  obtain⟨es2,t3,gave2⟩:=Rl
  dsimp only at hpm hfr hmk ⊢
  have hsz:es2.size=es1.size:=by rw[←pT,hpm.length_eq,pT]
  have hb2:es2.size < scanBound:=by rw[hsz];exact S.bound
  have S2:SS w b ks es2 t3:=⟨(hpm.map _).trans S.perm,fun e he=>S.elems e (hpm.mem_iff.mp he),hb2,hfr,hmk.1.trans S.led,fun _=>hmk.2⟩
  refine wpAny_bind (hg _ _ _ ?_)
  refine wpAny_bind (wpAny_storeSet_of ho1 rfl ?_ (fits_of_scanBound hb2))
  exact wpAny_pure (h _ (hsb1.trans (Heap.SameBut.update _ a _)) ⟨es2,_,t3,oV ho1,S2⟩)
 ·exact wpAny_pure (h _ hsb1 ⟨es1,_,t2,ho1,S⟩)
def jX(ks:List Str)(x:Str):List Str:=if x∈ks then ks else ks++[x]
theorem jn{a:Addr}{b:Bool}{ks:List Str}{x:Str}{tk:Tok}{Q:Bool→Shared→Prop}(hS:StrSet w s.heap a b ks)(hroom:ks.length+1 < scanBound)
  (h:∀(r:Bool) h',Heap.SameBut a s.heap h'→StrSet w h' a b (jX ks x)→Q r {s with heap:=h'}):
  wpAny (model prog w) A (setAddHashed a (.str x tk) (hashStr w x)) Q E s:=by
 obtain⟨es,ep,t,ho,S⟩:=hS
 have hb1:es.size+1 < scanBound:=by rw[S.len];exact hroom
 have hel:=S.elemsOf (prog:=prog)
 have hkey:(strKind prog w).is x (.str x tk)=true:=by simp[PySem.strKind,Value.isStrOf]
 unfold setAddHashed setAddHashedIn
 refine wpAny_holding (wpAny_bind (wpAny_setState_of ho rfl S.fits ?_))
 dsimp only
 rw[byScan_of (knd:=strKind prog w) (x:=.str x tk) rfl S.bound hel]
 simp only[↓reduceIte]
 unfold setAddByScan
 refine wpAny_bind ?_
 refine wpAny_bind (wpAny_rule ?_)
 refine wpAny_bind (wpAny_setScan_of (knd:=strKind prog w) hkey ho rfl S.fits hel ?_)
 cases hr:List.findIdx? (fun e=>(strKind prog w).is x e.2) es.toList with
 |some j=>
  dsimp only
  obtain⟨hj,hpj,_⟩:=List.findIdx?_eq_some_iff_getElem.mp hr
  have hk:x∈ks:=(S.mem x).mpr ⟨es.toList[j],List.getElem_mem hj,hpj⟩
  refine wpAny_pure (wpAny_pure ?_)
  have e:s={s with heap:=s.heap}:=by cases s;rfl
  rw[e]
  exact h _ s.heap (Heap.SameBut.refl a s.heap) (by rw[jX,if_pos hk];exact⟨es,ep,t,ho,S⟩)
 |none=>
  dsimp only
  have hk:x∉ks:=fun hk=>by
   obtain⟨e,he,hp⟩:=(S.mem x).mp hk
   have:=List.findIdx?_eq_none_iff.mp hr e he
   rw[show(strKind prog w).is x e.2=true from hp]at this;exact Bool.noConfusion this
  have hgw:∀(b:Bool) {s₁:Shared} {Q':Unit→Shared→Prop},Q' () s₁→wpAny (model prog w) A (match b with |true=>rule "set.scan.the-table-gave-way" |false=>pure ()) Q' E s₁:=
   fun b s₁ Q' hq=>by cases b <;> first |exact wpAny_pure hq |exact wpAny_rule hq
  have hperm:=layNew_perm t es (hashStr w x) (.str x tk)
  have hfits:=layNew_fits t es (hashStr w x) (.str x tk)
  have hled:=qo t es (hashStr w x) (.str x tk)
  generalize hL:layNew t es (hashStr w x) (.str x tk)=L at hperm hfits hled ⊢
  obtain⟨es1,t1,wasDummy,gave⟩:=L
  dsimp only at hperm hfits hled ⊢
  rw[Array.toList_push]at hperm
  have hb1':es1.size < scanBound:=by rw[←pT,hperm.length_eq,List.length_append,pT];simpa using hb1
  have hpm:(es1.toList.map (fun e=>strOf e.2)).Perm (ks++[x]):=(hperm.map _).trans (by rw[List.map_append];exact S.perm.append_right _)
  have hel1:∀e∈es1.toList,∃x tk,e=(hashStr w x,Value.str x tk):=fun e he=>by
   rcases Zao.mp (hperm.mem_iff.mp he)with z |z
   ·exact S.elems e z
   ·exact⟨x,tk,Zaf.mp z⟩
  refine wpAny_bind (hgw _ ?_)
  split
  ·refine wpAny_bind ?_
   rw[hashByValue_scannable 8 (x:=.str x tk) rfl]
   refine wpAny_pure ?_
   simp only[plainKind,Bool.false_eq_true,↓reduceIte]
   refine rD ?_ ho (t2:={t1 with plain:=false}) (ks:=jX ks x) (b:=b) ⟨by rw[jX,if_neg hk];exact hpm,hel1,hb1',SetTable.fits_plain_off hfits,hled.trans S.led,fun _=>rfl⟩ rfl ?_
   ·intro b s₁ Q' hq;cases b <;> first |exact wpAny_pure hq |exact wpAny_rule hq
   ·intro h' hsb hS';dsimp only;exact wpAny_pure (h _ h' hsb hS')
  ·rename_i hpl
   refine wpAny_bind (wpAny_pure ?_)
   simp only[↓reduceIte]
   have hpl':t1.plain=false:=by simpa using hpl
   refine rD ?_ ho (ks:=jX ks x) (b:=b) ⟨by rw[jX,if_neg hk];exact hpm,hel1,hb1',hfits,hled.trans S.led,fun _=>hpl'⟩ hpl' ?_
   ·intro b s₁ Q' hq;cases b <;> first |exact wpAny_pure hq |exact wpAny_rule hq
   ·intro h' hsb hS';dsimp only;exact wpAny_pure (h _ h' hsb hS')
end
def ij(val:Nat→Str)(i:Nat):List Str:=((List.range i).map val).foldl jX []
theorem mn(val:Nat→Str)(i:Nat):ij val (i+1)=jX (ij val i) (val i):=by
 unfold ij;rw[List.range_succ,List.map_append,List.foldl_append];rfl
theorem vc(ks:List Str)(x:Str):(jX ks x).length≤ks.length+1:=by
 unfold jX;split
 ·omega
 ·simp
theorem oW(val:Nat→Str):∀i,(ij val i).length≤i
 | 0=>dw _
 |i+1=>by rw[mn];have:=oW val i;have:=vc (ij val i) (val i);omega
section
variable {prog:Program} {w:World} {A:Around} {R:Result→Shared→Prop} {I:Addr} {fp wr:List Addr} {G:Array GenState→Array GenState→Prop} {n:Nat} {P:Nat→Value→Prop} {St:Nat→Shared→Prop}
theorem jM(W:WalksS prog w A.in1 I fp wr G n P St)(S:Addr)(hSf:S∉fp)(b:Bool)
  (val:Nat→Str) (hval:∀i v,P i v→∃t,v=.str (val i) t) (hb:n+1 < scanBound):
  ∀(k i:Nat) (s:Shared),n - i=k→i≤n→St i s→StrSet w s.heap S b (ij val i)→
   (∀s',Moved (S::wr) G s s'→StrSet w s'.heap S b (ij val n)→R (.ok (.ret .none)) s')→
   codeAny (model prog w) A (.builtin "set.update.loop" ⟨[.ref S,.ref I],[]⟩) R s:=by
 have hSw:S∉wr:=fun h=>hSf (W.sub _ h)
 have hsub:∀b∈wr,b∈S::wr:=fun b hb=>fD _ hb
 intro k
 induction k with
 |zero=>
  intro i s hk hi hst hS hR
  have hin:i=n:=by omega
  subst hin
  refine codeAny_builtin PyProof.Rows.F.entry_set_update_loop ?_
  rw[Around.under_plainId PyProof.Rows.F.plain_set_update_loop _]
  show wpAny _ A.in1 (pyNext (.ref I) >>= _) _ _ s
  refine wpAny_bind (W.done s _ _ hst fun s' hm=>?_)
  show wpAny _ A.in1 (ret Value.none) _ _ s'
  exact wpAny_pure (hR s' (hm.mono hsub) (hS.at' fun o e=>hm.heap S o hSw e))
 |succ k ih=>
  intro i s hk hi hst hS hR
  have hlt:i < n:=by omega
  refine codeAny_builtin PyProof.Rows.F.entry_set_update_loop ?_
  rw[Around.under_plainId PyProof.Rows.F.plain_set_update_loop _]
  show wpAny _ A.in1 (pyNext (.ref I) >>= _) _ _ s
  refine wpAny_bind (W.item i s _ _ hlt hst fun v s' hP hst' hm=>?_)
  obtain⟨t,rfl⟩:=hval i v hP
  have hS':StrSet w s'.heap S b (ij val i):=hS.at' fun o e=>hm.heap S o hSw e
  show wpAny _ A.in1 (holding [Value.str (val i) t] (setAdd S (.str (val i) t)) >>= _) _ _ s'
  refine wpAny_bind (wpAny_holding ?_)
  unfold setAdd
  refine wpAny_holding ?_
  refine wpAny_bind (wpAny_pyHash_str ?_)
  have hroom:(ij val i).length+1 < scanBound:=by have:=oW val i;omega
  refine jn (s:={s' with toks:=s'.toks+1}) hS' hroom fun r h' hsb hS2=>?_
  refine wpAny_pure ⟨plainId_quiet PyProof.Rows.F.plain_set_update_loop _,ih (i+1) _ (by omega) hlt (W.frame _ s' _ _ hst' (Nat.le_succ _) fun b hb o e=>?_) (by rw[mn];exact hS2) fun s'' hm'' hS''=>?_⟩
  ·rw[hsb.2 b (fun h:b=S=>hSf (by rw[←h];exact hb))];exact e
  ·refine hR s'' (Moved.trans W.gtrans ((hm.mono hsub).then_heap (Nat.le_succ _) fun b o hb e=>?_) hm'') hS''
   rw[hsb.2 b (fun h:b=S=>hb (by rw[h];exact f_))];exact e
end
theorem iQ(w:World)(led:Bool):SS w led [] #[] (.fresh 0 0 led):=⟨by simp,fun e he=>by simp at he,by decide,by rfl,rfl,fun h=>absurd rfl h⟩
def gX(w:World):Bool:= !w.params.followText "set-order"
section
variable {prog:Program} {w:World} {A:Around} {E:Value→Shared→Prop} {s:Shared}
theorem oX(a:Value){Q₁:Value→Shared→Prop}
  (h:Q₁ (.ref s.heap.objs.size) {s with heap:=s.heap.push (bV #[] 0 (.fresh 0 0 (gX w)))}):
  codeAny (model prog w) A (.call (.builtin "set.__new__") ⟨[.type "set",a],[]⟩) (wants Q₁ E) s:=by
 refine codeAny_of_tree ?_
 show wpAny _ A.in1 (do checkBuiltinCall "set.__new__" ⟨[.type "set",a],[]⟩;again (.builtin "set.__new__" ⟨[.type "set",a],[]⟩)) _ _ s
 refine wpAny_bind (wpAny_of_eq (PySem.F.newCall_set_1 a) (wpAny_pure ⟨plainId_quiet PySem.F.plain_set_new _,codeAny_builtin PySem.F.entry_set_new ?_⟩))
 rw[Around.under_plainId PySem.F.plain_set_new _]
 unfold Builtin.«set.__new__» Builtin.Frozenset.newClass
 have hsub:=sub_set_self
 obtain⟨hp,g,d,tk,os⟩:=s
 dsimp only
 wp_walk
 refine wpAny_askSetting (wpAny_pure ?_)
 dsimp only
 simp only[newObj]
 refine wpAny_bind (wpAny_alloc (wpAny_pure ?_))
 exact wpAny_pure h
end
end NhSet
namespace NhSet
open PySem PyProof.Rows
namespace F
theorem oY:isSubtype (.type "str") (.type "set")=pure false:=by rw[isSubtype_type];kernel_rfl
theorem iR:isSubtype (.type "str") (.type "frozenset")=pure false:=by rw[isSubtype_type];kernel_rfl
end F
section
variable {prog:Program} {w:World} {A:Around} {E:Value→Shared→Prop} {s:Shared}
theorem rE:∀{vs:List Value} {ns:List Str},StrsAre vs ns→∀(i:Nat) (v:Value),vs[i]? =some v→∃t,v=.str (ns.getD i ⟨#[]⟩) t
 |_,_,.nil,i,v,h=>by simp at h
 |_,_,.cons n t hr,0,v,h=>by simp at h;exact⟨t,by rw[←h];rfl⟩
 |_,_,.cons n t hr,i+1,v,h=>by
  simp only[Z3]at h
  obtain⟨t',e⟩:=rE hr i v h
  exact⟨t',by rw[e];rfl⟩
set_option maxHeartbeats 4000000 in
theorem sY{l:Addr}{items:Array Value}{ns:List Str}{Q:Value→Shared→Prop}
  (hh:A.handled=none) (hl:s.heap.IsList l items) (hi:StrsAre items.toList ns) (hb:items.size+1 < scanBound)
  (h:∀(h':Heap) (tk:Nat),StrSet w h' s.heap.objs.size (gX w) (ij (fun i=>ns.getD i ⟨#[]⟩) items.size)→
   (∀b o,b < s.heap.objs.size→s.heap.get? b=some o→h'.get? b=some o)→Q (.ref s.heap.objs.size) {s with heap:=h',toks:=tk}):
  wpAny (model prog w) A (call (.type "set") [.ref l]) Q E s:=by
 obtain⟨c,tl,hmro⟩:=PySem.F.called_set.mro
 have hmade:=PySem.F.called_set.made
 have hsub:=PySem.F.called_set.sub
 refine wpAny_call (codeAny_of_tree ?_)
 show wpAny _ _ (callAny (.type "set") _) _ _ _
 refine wpAny_pure ⟨Code.quiet_builtin _ (by decide+kernel),codeAny_builtin PySem.F.entry_type_call ?_⟩
 rw[Around.under_plain (weight_type_call_type "set" [.ref l] []) rfl]
 have h1:=PySem.F.called_set.notType
 have h2:=PySem.F.called_set.canCreate
 have hct:=PySem.F.typeCall_set_1 (.ref l)
 repeat (any_goals (first |assumption |wp_step))
 generalize hled:gX w=led at h
 refine codeAny_mono (oX (w:=w) (.ref l) (E:=E) (Q₁:=fun obj s₁=>obj=.ref s.heap.objs.size∧s₁={s with heap:=s.heap.push {cls:=.type "set",dict:=none,data:=.set #[] 0 (.fresh 0 0 led)}}) (by rw[hled];exact⟨rfl,rfl⟩)) fun r s₁ hr=>?_
 cases r with
 |error e=>exact hr
 |ok fl=>
  cases fl with
  |ret obj=>
   obtain⟨rfl,rfl⟩:=hr
   have hS:(s.heap.push {cls:=.type "set",dict:=none,data:=.set #[] 0 (.fresh 0 0 led)}).get? s.heap.objs.size=some {cls:=.type "set",dict:=none,data:=.set #[] 0 (.fresh 0 0 led)}:=gE _ rfl
   have hT:Shared.TypeIs {s with heap:=s.heap.push {cls:=.type "set",dict:=none,data:=.set #[] 0 (.fresh 0 0 led)}} (.ref s.heap.objs.size) "set":=⟨_,hS,rfl⟩
   have hli:=PySem.F.called_set.init.lookup
   have hbi:=PySem.F.called_set.init.bind (.ref s.heap.objs.size)
   repeat (any_goals (first |assumption |wp_step))
   refine codeAny_mono (codeAny_call_builtin (R:=wants (fun r s₂=>r=.none∧∃h' tk,s₂={s with heap:=h',toks:=tk}∧
     StrSet w h' s.heap.objs.size led (ij (fun i=>ns.getD i ⟨#[]⟩) items.size)∧
     (∀b o,b < s.heap.objs.size→s.heap.get? b=some o→h'.get? b=some o)) E) PySem.F.called_set.init.plain PySem.F.entry_set_init (check_set_init_1 hT ?_)) fun r₂ s₂ hr₂=>?_
   ·obtain⟨ol,hol,hcl,nl,hdl⟩:=hl
    obtain⟨ocls,odict,odata,oslots⟩:=ol
    simp only at hcl hdl
    subst hcl;subst hdl
    have hol':(s.heap.push {cls:=.type "set",dict:=none,data:=.set #[] 0 (.fresh 0 0 led)}).get? l=some {cls:=.type "list",dict:=odict,data:=.seq items nl,slots:=oslots}:=dI _ hol
    have hsls:=PySem.F.sub_list_set
    have hslf:=PySem.F.sub_list_frozenset
    have hne:(Value.type "list" == Value.type "dict")=false:=by decide
    have hl1:(s.heap.push {cls:=.type "set",dict:=none,data:=.set #[] 0 (.fresh 0 0 led)}).IsList l items:=⟨_,hol',rfl,nl,rfl⟩
    unfold Builtin.«set.__init__» noKeywords Builtin.Frozenset.updateFrom
    generalize hPI:pyIter=PI
    wp_walk
    subst hPI
    refine wpAny_pyIter_list hl1 ?_
    refine wpAny_bind (wpAny_runValue ?_)
    have hlS:l < s.heap.objs.size:=eB hol
    have hh3:A.in1.in1.in1.handled=none:=by simp[hh]
    have hneI:l≠(s.heap.push {cls:=.type "set",dict:=none,data:=.set #[] 0 (.fresh 0 0 led)}).objs.size:=by
     rw[Heap.size_push];exact eT (n_ hlS)
    have hSf:s.heap.objs.size∉[(s.heap.push {cls:=.type "set",dict:=none,data:=.set #[] 0 (.fresh 0 0 led)}).objs.size,l]:=by
     rw[Heap.size_push];simp only[Zap,Zaf,List.not_mem_nil,or_false,not_or]
     exact⟨eT (Nat.lt_succ_self _),Nat.ne_of_gt hlS⟩
    have hval:∀(i:Nat) (v:Value),items[i]? =some v→∃t,v=.str ((fun i=>ns.getD i ⟨#[]⟩) i) t:=fun i v hv=>
     rE hi i v (by rw[Array.getElem?_toList];exact hv)
    refine jM ((Walks.list hh3 _ l hneI items).toS) s.heap.objs.size
     hSf led (fun i=>ns.getD i ⟨#[]⟩) hval hb (items.size - 0) 0 _ (by omega) (Nat.zero_le _)
     ⟨⟨_,gE _ rfl,rfl,rfl⟩,(hl1.push _)⟩ ?hS0 ?hR
    case hS0=>
     have hget:((s.heap.push {cls:=.type "set",dict:=none,data:=.set #[] 0 (.fresh 0 0 led)}).push {cls:=.type "list_iterator",data:=.fields #[.ref l,.int 0 0]}).get? s.heap.objs.size
       =some {cls:=.type "set",dict:=none,data:=.set #[] 0 (.fresh 0 0 led)}:=dI _ hS
     exact⟨_,_,_,hget,iQ w led⟩
    case hR=>
     intro s' hm hS'
     obtain⟨h',g',d',tk',os'⟩:=s'
     have eg:g'=s.gens:=hm.gens
     have ed:d'=s.drawn:=hm.drawn
     have eo:os'=s.os:=hm.os
     subst eg;subst ed;subst eo
     show wpAny _ _ _ _ _ _
     refine wpAny_pure ?_
     show wpAny _ _ (ret Value.none) _ _ _
     refine wpAny_pure ⟨rfl,h',tk',rfl,hS',fun b o hb e=>?_⟩
     have hb1:b≠s.heap.objs.size:=eT hb
     have hb2:b≠(s.heap.push {cls:=.type "set",dict:=none,data:=.set #[] 0 (.fresh 0 0 led)}).objs.size:=by
      rw[Heap.size_push];exact eT (n_ hb)
     exact hm.heap b o (by simp only[Zap,Zaf,List.not_mem_nil,or_false,not_or];exact⟨hb1,hb2⟩) (dI _ (dI _ e))
   ·cases r₂ with
    |error e=>exact hr₂
    |ok fl₂=>
     cases fl₂ with
     |ret r=>
      obtain⟨rfl,h',tk,rfl,hS',hk'⟩:=hr₂
      repeat (any_goals (first |assumption |wp_step))
      exact h _ _ hS' hk'
     |_=>exact hr₂.elim
  |_=>exact hr.elim
def fU(x:Str)(i:Nat):Str:=⟨#[x.cps.getD i 0]⟩
set_option maxHeartbeats 4000000 in
theorem vd{x:Str}{t:Tok}{Q:Value→Shared→Prop}
  (hh:A.handled=none) (hb:x.cps.size+1 < scanBound)
  (h:∀(h':Heap) (tk:Nat),StrSet w h' s.heap.objs.size (gX w) (ij (fU x) x.cps.size)→
   (∀b o,b < s.heap.objs.size→s.heap.get? b=some o→h'.get? b=some o)→Q (.ref s.heap.objs.size) {s with heap:=h',toks:=tk}):
  wpAny (model prog w) A (call (.type "set") [.str x t]) Q E s:=by
 obtain⟨c,tl,hmro⟩:=PySem.F.called_set.mro
 have hmade:=PySem.F.called_set.made
 have hsub:=PySem.F.called_set.sub
 refine wpAny_call (codeAny_of_tree ?_)
 show wpAny _ _ (callAny (.type "set") _) _ _ _
 refine wpAny_pure ⟨Code.quiet_builtin _ (by decide+kernel),codeAny_builtin PySem.F.entry_type_call ?_⟩
 rw[Around.under_plain (weight_type_call_type "set" [.str x t] []) rfl]
 have h1:=PySem.F.called_set.notType
 have h2:=PySem.F.called_set.canCreate
 have hct:=PySem.F.typeCall_set_1 (.str x t)
 repeat (any_goals (first |assumption |wp_step))
 generalize hled:gX w=led at h
 refine codeAny_mono (oX (w:=w) (.str x t) (E:=E) (Q₁:=fun obj s₁=>obj=.ref s.heap.objs.size∧s₁={s with heap:=s.heap.push {cls:=.type "set",dict:=none,data:=.set #[] 0 (.fresh 0 0 led)}}) (by rw[hled];exact⟨rfl,rfl⟩)) fun r s₁ hr=>?_
 cases r with
 |error e=>exact hr
 |ok fl=>
  cases fl with
  |ret obj=>
   obtain⟨rfl,rfl⟩:=hr
   have hS:(s.heap.push {cls:=.type "set",dict:=none,data:=.set #[] 0 (.fresh 0 0 led)}).get? s.heap.objs.size=some {cls:=.type "set",dict:=none,data:=.set #[] 0 (.fresh 0 0 led)}:=gE _ rfl
   have hT:Shared.TypeIs {s with heap:=s.heap.push {cls:=.type "set",dict:=none,data:=.set #[] 0 (.fresh 0 0 led)}} (.ref s.heap.objs.size) "set":=⟨_,hS,rfl⟩
   have hli:=PySem.F.called_set.init.lookup
   have hbi:=PySem.F.called_set.init.bind (.ref s.heap.objs.size)
   repeat (any_goals (first |assumption |wp_step))
   refine codeAny_mono (codeAny_call_builtin (R:=wants (fun r s₂=>r=.none∧∃h' tk,s₂={s with heap:=h',toks:=tk}∧
     StrSet w h' s.heap.objs.size led (ij (fU x) x.cps.size)∧
     (∀b o,b < s.heap.objs.size→s.heap.get? b=some o→h'.get? b=some o)) E) PySem.F.called_set.init.plain PySem.F.entry_set_init (check_set_init_1 hT ?_)) fun r₂ s₂ hr₂=>?_
   ·have hsls:=F.oY
    have hslf:=F.iR
    have hne:(Value.type "str" == Value.type "dict")=false:=by decide
    have hTx:Shared.TypeIs {s with heap:=s.heap.push {cls:=.type "set",dict:=none,data:=.set #[] 0 (.fresh 0 0 led)}} (.str x t) "str":=rfl
    unfold Builtin.«set.__init__» noKeywords Builtin.Frozenset.updateFrom
    generalize hPI:pyIter=PI
    wp_walk
    subst hPI
    refine wpAny_pyIter_str fun o St W hst=>?_
    refine wpAny_bind (wpAny_runValue ?_)
    have hh3:A.in1.in1.in1.handled=none:=by simp[hh]
    have hSf:s.heap.objs.size∉[(s.heap.push {cls:=.type "set",dict:=none,data:=.set #[] 0 (.fresh 0 0 led)}).objs.size]:=by
     rw[Heap.size_push];simp only[Zap,Zaf,List.not_mem_nil,or_false,not_or]
     exact eT (Nat.lt_succ_self _)
    have hval:∀(i:Nat) (v:Value),SignAt x i v→∃t,v=.str (fU x i) t:=fun i v ⟨c,u,hc,hv⟩=>⟨u,by rw[hv];simp[fU,Array.getD_eq_getD_getElem?,hc]⟩
    refine jM ((W _ hh3).toS) s.heap.objs.size
     hSf led (fU x) hval hb (x.cps.size - 0) 0 _ (by omega) (Nat.zero_le _) hst ?hS0 ?hR
    case hS0=>exact⟨_,_,_,dI _ hS,iQ w led⟩
    case hR=>
     intro s' hm hS'
     obtain⟨h',g',d',tk',os'⟩:=s'
     have eg:g'=s.gens:=hm.gens
     have ed:d'=s.drawn:=hm.drawn
     have eo:os'=s.os:=hm.os
     subst eg;subst ed;subst eo
     show wpAny _ _ _ _ _ _
     refine wpAny_pure ?_
     show wpAny _ _ (ret Value.none) _ _ _
     refine wpAny_pure ⟨rfl,h',tk',rfl,hS',fun b o hb e=>?_⟩
     have hb1:b≠s.heap.objs.size:=eT hb
     have hb2:b≠(s.heap.push {cls:=.type "set",dict:=none,data:=.set #[] 0 (.fresh 0 0 led)}).objs.size:=by
      rw[Heap.size_push];exact eT (n_ hb)
     exact hm.heap b o (by simp only[Zap,Zaf,List.not_mem_nil,or_false,not_or];exact⟨hb1,hb2⟩) (dI _ (dI _ e))
   ·cases r₂ with
    |error e=>exact hr₂
    |ok fl₂=>
     cases fl₂ with
     |ret r=>
      obtain⟨rfl,h',tk,rfl,hS',hk'⟩:=hr₂
      repeat (any_goals (first |assumption |wp_step))
      exact h _ _ hS' hk'
     |_=>exact hr₂.elim
  |_=>exact hr.elim
end
end NhSet
namespace NhSet
open PySem PyProof.Rows
theorem il{α:Type}:∀{l:List α} {i:Nat} (h:i < l.length),(l[i]::l.eraseIdx i).Perm l
 |x::xs,0,h=>List.Perm.refl _
 |x::xs,i+1,h=>by
  have:=il (l:=xs) (i:=i) (by simpa using h)
  simp only[List.getElem_cons_succ,List.eraseIdx_cons_succ]
  exact(List.Perm.swap x _ _).trans (this.cons x)
theorem mo{α:Type}(next:Nat→Nat):∀(fuel k:Nat) (left:List α) (out:Array α),left.length=fuel→(pickOrder.go next fuel k left out).toList.Perm (out.toList++left)
 | 0,k,left,out,h=>by
  have:left=[]:=List.length_eq_zero_iff.mp h
  subst this;simp[pickOrder.go]
 |fuel+1,k,left,out,h=>by
  unfold pickOrder.go
  have hlt:next k % left.length < left.length:=Nat.mod_lt _ (by omega)
  rw[pS hlt]
  dsimp only
  refine(mo next fuel (k+1) _ _ (by rw[List.length_eraseIdx_of_lt hlt];omega)).trans ?_
  rw[Array.toList_push,lA]
  exact(il hlt).append_left _
theorem kI{α:Type}(next:Nat→Nat)(xs:Array α):(pickOrder next xs).toList.Perm xs.toList:=by
 have:=mo next xs.size 0 xs.toList #[] (by simp)
 simpa[pickOrder]using this
section
variable {M:Model} {A:Around} {E:Value→Shared→Prop}
theorem nu{src:Source}{n:Nat}{s:Shared}{Q:Nat→Shared→Prop}(hn:n≠0)(h:∀i d,i < n→Q i {s with drawn:=d}):wpAny M A (choose src n) Q E s:=fun Γ p hΓ=>by
 show Sem.wp M Γ (.choose src n .pure) _ _ p s
 rw[Sem.wp_choose]
 exact⟨hn,by rw[Sem.wp_pure];exact h _ _ (Nat.mod_lt _ (Nat.pos_of_ne_zero hn))⟩
theorem gd{α:Type}:∀(n:Nat) (xs:List α) (s:Shared) {Q:List α→Shared→Prop},xs.length=n→(∀ys d,ys.Perm xs→Q ys {s with drawn:=d})→wpAny M A (drawOrder n xs) Q E s
 | 0,xs,s,Q,hl,h=>by
  have:xs=[]:=List.length_eq_zero_iff.mp hl
  subst this
  exact wpAny_pure (h [] s.drawn (List.Perm.refl _))
 |n+1,[],s,Q,hl,h=>by simp at hl
 |n+1,x::xs,s,Q,hl,h=>by
  show wpAny M A (choose .order (x::xs).length >>= _) Q E s
  refine wpAny_bind (nu (by simp) fun i d hi=>?_)
  rw[pS hi]
  dsimp only
  refine wpAny_bind (gd n _ _ (by rw[List.length_eraseIdx_of_lt hi];simpa using hl) fun ys d' hp=>?_)
  exact wpAny_pure (h _ d' ((hp.cons _).trans (il hi)))
end
namespace F
theorem kJ:entryFor table "set.__iter__"=some Builtin.«frozenset.__iter__»:=
 entryFor_alias (id':="frozenset.__iter__") (by kernel_rfl) rfl (by decide+kernel) (by kernel_rfl)
theorem slot_next:Slot "set_iterator" "__next__" "set_iterator.__next__":=
 .of (owner:="set_iterator") (n:="__next__") (by rw[typeLookup_type,builtinLookup_eq_fast];kernel_rfl) (by decide+kernel) (by decide+kernel) (by decide+kernel)
  (by first |exact .inl (by decide+kernel) |exact .inr (by decide+kernel)) (by rw[isSubtype_type];kernel_rfl)
theorem qr:entryFor table "set_iterator.__next__"=some Builtin.«set_iterator.__next__»:=entryFor_of_fast (by kernel_rfl)
theorem sZ(a:Value):argsOk "set_iterator.__next__" ⟨[a],[]⟩:=by unfold argsOk;kernel_rfl
theorem mq:Slot "set_iterator" "__iter__" "set_iterator.__iter__":=
 .of (owner:="set_iterator") (n:="__iter__") (by rw[typeLookup_type,builtinLookup_eq_fast];kernel_rfl) (by decide+kernel) (by decide+kernel) (by decide+kernel)
  (by first |exact .inl (by decide+kernel) |exact .inr (by decide+kernel)) (by rw[isSubtype_type];kernel_rfl)
theorem qu:entryFor table "set_iterator.__iter__"=some Builtin.«dict_keyiterator.__iter__»:=
 entryFor_alias (id':="dict_keyiterator.__iter__") (by kernel_rfl) rfl (by decide+kernel) (by kernel_rfl)
theorem s_(a:Value):argsOk "set_iterator.__iter__" ⟨[a],[]⟩:=by unfold argsOk;kernel_rfl
end F
abbrev oZ(first:Value)(i:Nat)(a:Addr)(n ep:Nat):Obj:={cls:=.type "set_iterator",data:=.fields #[first,.int i 0,.ref a,.int n 0,.int ep 0]}
section
variable {prog:Program} {w:World} {A:Around} {E:Value→Shared→Prop} {s:Shared}
theorem nv{I:Addr}{first:Value}{i:Nat}{a:Addr}{n ep:Nat}{Q:Value→Shared→Prop}(ho:s.heap.get? I=some (oZ first i a n ep))(h:Q (.ref I) s):wpAny (model prog w) A (pyIter (.ref I)) Q E s:=by
 have hT:s.TypeIs (.ref I) "set_iterator":=⟨_,ho,rfl⟩
 refine wpAny_pyIter_slot hT F.mq (wpAny_call_entry F.mq hT F.qu ?_ (F.s_ _))
 show wpAny _ _ (ret (.ref I)) _ _ s
 exact wpAny_pure ⟨_,rfl,"set_iterator",_,hT,F.slot_next.lookup,h⟩
theorem o4{a:Addr}{es:Array (Int×Value)}{ep:Nat}{t:SetTable}{Q:Bool→Shared→Prop}(ho:s.heap.get? a=some (bV es ep t))(hf:t.fits es.size=true)
  (h:Q (!(w.params.followText "set-order")&&(!t.plain&&decide (es.size > 1))) s):wpAny (model prog w) A (setDrawn a) Q E s:=by
 unfold setDrawn setsByText
 refine wpAny_bind (wpAny_setState_of ho rfl hf ?_)
 dsimp only
 refine wpAny_bind (wpAny_bind (wpAny_askSetting (wpAny_pure ?_)))
 exact wpAny_pure h
theorem nz{I:Addr}{Q:Option Value→Shared→Prop}(hh:A.handled=none){o:Obj}(hQ:∀h',Heap.ExtBut I s.heap h'→Q none {s with heap:=h'}){h1:Heap}(k:Heap.ExtBut I s.heap h1):
  wpAny (model prog w) A.in1 (newExc (.type "StopIteration") [] >>= fun e=>raiseNew e) (fun(fin:Fin) s'=>∃r,fin=.done (.ret r)∧wpAny (model prog w) A (pure (some r)) Q E s')
   (fun e s'=>wpAny (model prog w) A (isInstance e (.type "StopIteration") >>= fun b=>if b=true then pure none else throw e) Q E s') {s with heap:=h1}:=by
 refine wpAny_bind ?_
 simp only[newExc,newTuple]
 refine wpAny_bind (wpAny_newObj_type ?_ (by size_fits))
 refine wpAny_bind (m:=firstArgMember _ _) (wpAny_of_eq (a:=Value.none) (by first |rfl |(simp only[firstArgMember];rfl)) ?_)
 refine wpAny_newObj_type ?_ (by size_fits)
 simp only[raiseNew]
 refine wpAny_bind (wpAny_handled ?_)
 rw[show A.in1.handled=none from hh]
 refine wpAny_bind (wpAny_pure (wpAny_throw ?_))
 refine wpAny_bind (wpAny_isInstance (T:="StopIteration") (b:=true) ⟨_,gE _ rfl,rfl⟩ isSubtype_stop ?_)
 exact wpAny_pure (hQ _ ((k.push _).push _))
end
end NhSet
namespace NhSet
open PySem PyProof.Rows
section
variable {prog:Program} {w:World} {A:Around} {E:Value→Shared→Prop} {s:Shared}
theorem dM{I:Addr}{first:Value}{i:Nat}{a:Addr}{n ep:Nat}{Q:Option Value→Shared→Prop}(hI:s.heap.get? I=some (oZ first i a n ep)){es:Array (Int×Value)}{t:SetTable}(ha:s.heap.get? a=some (bV es ep t))(hf:t.fits es.size=true)(hn:es.size=n)
  (h:wpAny (model prog w) A.in1 (if let .int slot _:=first then do
    match ←setNext a slot.toNat i ep with
    |some (x,next)=>do
     setField (.ref I) 0 (rawInt next)
     setField (.ref I) 1 (rawInt (i+1))
     ret x
    |none=>do setField (.ref I) 2 .none;raiseNew (←newExc (.type "StopIteration") [])
   else do
    let some places ←seqItems? first |unsupported "internal:set_iterator"
    match places[i]? with
    |some (.int place _)=>do
     let x ←setNextDrawn a place.toNat ep
     setField (.ref I) 1 (rawInt (i+1))
     ret x
    |some _=>unsupported "internal:set_iterator"
    |none=>do setField (.ref I) 0 (rawInt 0);setField (.ref I) 2 .none;raiseNew (←newExc (.type "StopIteration") []))
   (fun(fin:Fin) s'=>∃r,fin=.done (.ret r)∧wpAny (model prog w) A (pure (some r)) Q E s')
   (fun e s'=>wpAny (model prog w) A (isInstance e (.type "StopIteration") >>= fun b=>if b=true then pure none else throw e) Q E s') s):
  wpAny (model prog w) A (pyNext (.ref I)) Q E s:=by
 have hT':s.TypeIs (.ref I) "set_iterator":=⟨_,hI,rfl⟩
 unfold pyNext
 refine wpAny_bind (wpAny_attempt (wpAny_callSpecial?_slot (name:=Str.ofString "__next__") hT' F.slot_next (wpAny_call_entry F.slot_next hT' F.qr ?_ (F.sZ _))))
 unfold Builtin.«set_iterator.__next__»
 refine wpAny_bind (m:=slotArgs _ _ _) (wpAny_pure ?_)
 refine wpAny_bind (wpAny_fieldsOf hI rfl ?_)
 dsimp only
 refine wpAny_bind (wpAny_setEntries_of ha rfl hf ?_)
 rw[if_neg (by simp[hn])]
 exact h
abbrev yE(es:Array (Int×Value))(j:Nat):Value:=(es.getD j (0,.none)).2
theorem bT{I:Addr}{o:Obj}{vs:Array Value}{k:Nat}{x:Value}{Q:Unit→Shared→Prop}(ho:s.heap.get? I=some o)(hd:o.data=.fields vs)(hk:k < vs.size)(hQ:∀h',Heap.SameBut I s.heap h'→h'.get? I=some {o with data:=.fields (vs.setIfInBounds k x)}→Q () {s with heap:=h'}):wpAny (model prog w) A (setField (.ref I) k x) Q E s:=by
 refine wpAny_setField ho hd hk (hQ _ (Heap.SameBut.update ..) ?_)
 have:=Heap.get?_update_self (Obj.mapFields fun vs=>vs.setIfInBounds k x) ho (Obj.isFreed_of_fields (Obj.data_mapFields hd _))
 rw[this]
 obtain⟨c,d,dt,sl⟩:=o
 simp only at hd
 subst hd
 rfl
theorem qv(hh:A.handled=none){I T a:Addr}{es:Array (Int×Value)}{ep:Nat}{t:SetTable}(π:List Nat)(hp:∀j∈π,j < es.size)(hl:π.length=es.size)(hf:t.fits es.size=true)(hTI:T≠I)(haI:a≠I):
  Walks prog w A I [I,T,a] [I] (π.map (yE es)).length (fun i v=>(π.map (yE es))[i]? =some v)
   (fun i h=>h.get? I=some (oZ (.ref T) i a es.size ep)∧h.get? T=some {cls:=.type "tuple",data:=.seq (π.map fun(i:Nat)=>rawInt i).toArray}∧h.get? a=some (bV es ep t)) where
 sub:=fun b hb=>by simp at hb;simp[hb]
 frame:=fun _ _ _ st hk=>⟨hk I (by simp) _ st.1,hk T (by simp) _ st.2.1,hk a (by simp) _ st.2.2⟩
 self:=fun _ _ _ _ st hQ=>nv st.1 hQ
 item:=fun i s Q E hi st hQ=>by
  obtain⟨hI,hT,ha⟩:=st
  rw[dv]at hi
  refine dM hI ha hf rfl ?_
  dsimp only
  refine wpAny_bind (wpAny_seqItems hT rfl ?_)
  dsimp only
  have e:(π.map fun(i:Nat)=>rawInt i).toArray[i]? =some (.int (π[i]:Nat) 0):=by
   simp[hi,rawInt]
  rw[e]
  dsimp only
  have hj:=hp π[i] (List.getElem_mem hi)
  unfold setNextDrawn
  refine wpAny_bind (wpAny_bind (wpAny_setState_of ha rfl hf ?_))
  dsimp only
  rw[if_neg (by simp)]
  have e2:es[((π[i]:Nat):Int).toNat]? =some (es[π[i]]):=by simp[hj]
  rw[e2]
  refine wpAny_pure ?_
  refine wpAny_bind (bT hI rfl (by simp) fun h' hs' ho'=>?_)
  refine wpAny_pure ⟨_,rfl,wpAny_pure (hQ _ h' s.toks ?_ ⟨?_,?_,?_⟩ fun b o hb e=>hs'.extBut b o (fun z=>hb (by simp[z])) e)⟩
  ·simp[hi,yE,hj]
  ·rw[ho'];simp[rawInt]
  ·exact hs'.extBut T _ hTI hT
  ·exact hs'.extBut a _ haI ha
 done:=fun s Q E st hQ=>by
  obtain⟨hI,hT,ha⟩:=st
  refine dM hI ha hf rfl ?_
  dsimp only
  refine wpAny_bind (wpAny_seqItems hT rfl ?_)
  dsimp only
  have e:(π.map fun(i:Nat)=>rawInt i).toArray[(π.map (yE es)).length]? =none:=by simp
  rw[e]
  dsimp only
  refine wpAny_bind (bT hI rfl (by simp) fun h' hs' ho'=>?_)
  refine wpAny_bind (bT (s:={s with heap:=h'}) ho' rfl (by simp) fun h2 hs2 _=>?_)
  exact nz (I:=I) (o:=bV es ep t) hh (fun h3 k=>hQ h3 s.toks fun b o hb e=>k b o (fun z=>hb (by simp[z])) e) (hs'.trans hs2).extBut
theorem iS {a:Addr} {es:Array (Int×Value)} {ep:Nat} {t:SetTable} {slot given:Nat} {Q:Option (Value×Nat)→Shared→Prop} (hb:w.params.followText "set-order"=true) (ha:s.heap.get? a=some (bV es ep t)) (hf:t.fits es.size=true)
  (h:Q (((pickOrder (w.params.setOrder a ep) es)[given]?).map fun e=>(e.2,slot)) s):wpAny (model prog w) A (setNext a slot given ep) Q E s:=by
 unfold setNext setsByText
 refine wpAny_bind (wpAny_setState_of ha rfl hf ?_)
 dsimp only
 refine wpAny_bind (wpAny_bind (wpAny_askSetting (wpAny_pure ?_)))
 rw[if_pos (show(model prog w).w.params.followText "set-order"=true from hb)]
 rw[if_neg (by simp)]
 refine wpAny_bind ?_
 unfold setWalk setsByText
 refine wpAny_bind (wpAny_setState_of ha rfl hf ?_)
 dsimp only
 refine wpAny_bind (wpAny_bind (wpAny_askSetting (wpAny_pure ?_)))
 rw[if_pos (show(model prog w).w.params.followText "set-order"=true from hb)]
 refine wpAny_bind (wpAny_askSetting (wpAny_pure ?_))
 exact wpAny_pure h
theorem jN {a:Addr} {es:Array (Int×Value)} {ep:Nat} {t:SetTable} {slot given:Nat} {Q:Option (Value×Nat)→Shared→Prop} (hb:w.params.followText "set-order"=false) (hsz:es.size≤1) (hled:t.led=true) (ha:s.heap.get? a=some (bV es ep t)) (hf:t.fits es.size=true)
  (h:Q (match es[SetTable.below t.place slot]?,t.place[SetTable.below t.place slot]? with |some (_,x),some j=>some (x,j+1) |_,_=>none) s):wpAny (model prog w) A (setNext a slot given ep) Q E s:=by
 unfold setNext setsByText
 refine wpAny_bind (wpAny_setState_of ha rfl hf ?_)
 dsimp only
 refine wpAny_bind (wpAny_bind (wpAny_askSetting (wpAny_pure ?_)))
 rw[if_neg (show ¬((model prog w).w.params.followText "set-order"=true) by show ¬(w.params.followText "set-order"=true);rw[hb];decide)]
 have hd:(!t.plain&&decide (es.size > 1))=false:=by rw[decide_eq_false (by omega)];simp
 show wpAny _ _ (if (!t.plain&&decide (es.size > 1))=true then _ else _) _ _ _
 rw[hd,if_neg (by decide)]
 show wpAny _ _ ((if (!t.led&& !es.isEmpty)=true then unsupported "set:maker-not-led" else pure PUnit.unit) >>= _) _ _ _
 rw[hled,if_neg (by simp)]
 refine wpAny_bind (wpAny_pure ?_)
 exact wpAny_pure h
theorem ti (hh:A.handled=none) {I a:Addr} {es:Array (Int×Value)} {ep:Nat} {t:SetTable} (hb:w.params.followText "set-order"=true) (hf:t.fits es.size=true) (haI:a≠I):
  Walks prog w A I [I,a] [I] ((pickOrder (w.params.setOrder a ep) es).toList.map (·.2)).length (fun i v=>((pickOrder (w.params.setOrder a ep) es).toList.map (·.2))[i]? =some v)
   (fun i h=>h.get? I=some (oZ (.int 0 0) i a es.size ep)∧h.get? a=some (bV es ep t)) where
 sub:=fun b hb=>by simp at hb;simp[hb]
 frame:=fun _ _ _ st hk=>⟨hk I (by simp) _ st.1,hk a (by simp) _ st.2⟩
 self:=fun _ _ _ _ st hQ=>nv st.1 hQ
 item:=fun i s Q E hi st hQ=>by
  obtain⟨hI,ha⟩:=st
  have hi':i < (pickOrder (w.params.setOrder a ep) es).size:=by simpa using hi
  refine dM hI ha hf rfl ?_
  dsimp only
  refine wpAny_bind (iS hb ha hf ?_)
  rw[Array.getElem?_eq_getElem hi']
  dsimp only[Z1]
  refine wpAny_bind (bT hI rfl (by simp) fun h' hs' ho'=>?_)
  refine wpAny_bind (bT (s:={s with heap:=h'}) ho' rfl (by simp) fun h2 hs2 ho2=>?_)
  refine wpAny_pure ⟨_,rfl,wpAny_pure (hQ _ h2 s.toks ?_ ⟨?_,?_⟩ fun b o hb e=>(hs'.trans hs2).extBut b o (fun z=>hb (by simp[z])) e)⟩
  ·simp[hi']
  ·rw[ho2];simp[rawInt]
  ·exact(hs'.trans hs2).extBut a _ haI ha
 done:=fun s Q E st hQ=>by
  obtain⟨hI,ha⟩:=st
  refine dM hI ha hf rfl ?_
  dsimp only
  refine wpAny_bind (iS hb ha hf ?_)
  rw[show(pickOrder (w.params.setOrder a ep) es)[((pickOrder (w.params.setOrder a ep) es).toList.map (·.2)).length]? =none by simp]
  dsimp only[Option.map_none]
  refine wpAny_bind (bT hI rfl (by simp) fun h' hs' ho'=>?_)
  exact nz (I:=I) (o:=bV es ep t) hh (fun h3 k=>hQ h3 s.toks fun b o hb e=>k b o (fun z=>hb (by simp[z])) e) hs'.extBut
theorem kK{xs:Array Nat}(h:xs.size≤1):SetTable.below xs 0=0:=by
 obtain⟨l⟩:=xs
 match l,h with
 |[],_=>rfl
 |[p],_=>simp[SetTable.below,SetTable.below.go]
theorem qw{p:Nat}:SetTable.below #[p] (p+1)=1:=by simp[SetTable.below,SetTable.below.go]
theorem ve (hh:A.handled=none) {I a:Addr} {es:Array (Int×Value)} {ep:Nat} {t:SetTable} (hb:w.params.followText "set-order"=false) (hsz:es.size≤1) (hled:t.led=true) (hf:t.fits es.size=true) (haI:a≠I):
  Walks prog w A I [I,a] [I] (es.toList.map (·.2)).length (fun i v=>(es.toList.map (·.2))[i]? =some v)
   (fun i h=>h.get? I=some (oZ (.int (if i=0 then 0 else (t.place.getD 0 0+1:Nat)) 0) i a es.size ep)∧h.get? a=some (bV es ep t)) where
 sub:=fun b hb=>by simp at hb;simp[hb]
 frame:=fun _ _ _ st hk=>⟨hk I (by simp) _ st.1,hk a (by simp) _ st.2⟩
 self:=fun _ _ _ _ st hQ=>nv st.1 hQ
 item:=fun i s Q E hi st hQ=>by
  obtain⟨hI,ha⟩:=st
  have hi':i < es.size:=by simpa using hi
  have hi0:i=0:=by omega
  subst hi0
  rw[if_pos rfl]at hI
  have hps:t.place.size=es.size:=by
   have:=hf;simp only[SetTable.fits,pW,beq_iff_eq]at this;exact this.1
  refine dM hI ha hf rfl ?_
  dsimp only
  refine wpAny_bind (jN hb hsz hled ha hf ?_)
  rw[show((0:Int)).toNat=0 from rfl,kK (by omega),Array.getElem?_eq_getElem hi',Array.getElem?_eq_getElem (show 0 < t.place.size by omega)]
  dsimp only
  refine wpAny_bind (bT hI rfl (by simp) fun h' hs' ho'=>?_)
  refine wpAny_bind (bT (s:={s with heap:=h'}) ho' rfl (by simp) fun h2 hs2 ho2=>?_)
  refine wpAny_pure ⟨_,rfl,wpAny_pure (hQ _ h2 s.toks ?_ ⟨?_,?_⟩ fun b o hb e=>(hs'.trans hs2).extBut b o (fun z=>hb (by simp[z])) e)⟩
  ·simp[hi']
  ·rw[ho2]
   have:t.place.getD 0 0=t.place[0]:=by simp[Array.getD,show 0 < t.place.size by omega]
   simp[rawInt,this]
  ·exact(hs'.trans hs2).extBut a _ haI ha
 done:=fun s Q E st hQ=>by
  obtain⟨hI,ha⟩:=st
  have hps:t.place.size=es.size:=by
   have:=hf;simp only[SetTable.fits,pW,beq_iff_eq]at this;exact this.1
  have hlen:(es.toList.map (·.2)).length=es.size:=by simp
  rw[hlen]at hI
  refine dM hI ha hf rfl ?_
  dsimp only
  refine wpAny_bind (jN hb hsz hled ha hf ?_)
  have hno:(match es[SetTable.below t.place (if es.size=0 then (0:Int)else ((t.place.getD 0 0+1:Nat):Int)).toNat]?,t.place[SetTable.below t.place (if es.size=0 then (0:Int)else ((t.place.getD 0 0+1:Nat):Int)).toNat]? with |some (_,x),some j=>some (x,j+1) |_,_=>(none:Option (Value×Nat)))=none:=by
   by_cases z:es.size=0
   ·rw[if_pos z,show((0:Int)).toNat=0 from rfl,kK (by omega),Array.getElem?_eq_none (by omega)]
   ·rw[if_neg z]
    obtain⟨⟨p⟩,hp⟩:∃q:{p:Nat // t.place=#[p]},True:=by
     generalize t.place=pl at hps
     obtain⟨l⟩:=pl
     match l,hps with
     |[],h=>simp at h;omega
     |[p],h=>exact⟨⟨p,rfl⟩,trivial⟩
     |_::_::_,h=>simp at h;omega
    rename_i hpl
    rw[hpl]
    simp only[Int.toNat_natCast]
    have:(#[p]:Array Nat).getD 0 0=p:=rfl
    rw[this,qw,Array.getElem?_eq_none (show es.size≤1 by omega)]
  rw[hno]
  dsimp only
  refine wpAny_bind (bT hI rfl (by simp) fun h' hs' ho'=>?_)
  exact nz (I:=I) (o:=bV es ep t) hh (fun h3 k=>hQ h3 s.toks fun b o hb e=>k b o (fun z=>hb (by simp[z])) e) hs'.extBut
theorem vf{a:Addr}{es:Array (Int×Value)}{ep:Nat}{t:SetTable}{ks:List Str}{Q:Value→Shared→Prop}(ha:s.heap.get? a=some (bV es ep t))(S:SS w (gX w) ks es t)
  (hQ:∀(s':Shared) (I:Addr) (fp:List Addr) (St:Nat→Heap→Prop) (items:List Value),(∀b o,s.heap.get? b=some o→s'.heap.get? b=some o)→s.heap.objs.size≤s'.heap.objs.size→s'.gens=s.gens→s'.os=s.os→s'.toks=s.toks→(∀b∈fp,b=a∨s.heap.objs.size≤b)→s.heap.objs.size≤I→
   (∀A':Around,A'.handled=none→Walks prog w A' I fp [I] items.length (fun i v=>items[i]? =some v) St)→St 0 s'.heap→items.Perm (es.toList.map (·.2))→Q (.ref I) s'):
  wpAny (model prog w) A (pyIter (.ref a)) Q E s:=by
 have hT:s.TypeIs (.ref a) "set":=⟨_,ha,rfl⟩
 have hlt:a < s.heap.objs.size:=eB ha
 refine wpAny_pyIter_slot hT PySem.F.slot_set_iter (wpAny_call_entry PySem.F.slot_set_iter hT F.kJ ?_ (PySem.F.args_set_iter_1 _))
 unfold Builtin.«frozenset.__iter__» Builtin.Frozenset.slot0 slotArgs
 simp only[List.isEmpty_nil,↓reduceIte,bind_assoc,Z5,bne_self_eq_false,ca]
 unfold Builtin.Frozenset.addrOf Builtin.Frozenset.sizeOf
 refine wpAny_bind (wpAny_pure ?_)
 try dsimp only
 refine wpAny_bind (wpAny_pure ?_)
 refine wpAny_bind (wpAny_bind (wpAny_setEntries_of ha rfl S.fits (wpAny_pure ?_)))
 refine wpAny_bind (o4 ha S.fits ?_)
 cases hd:(!(w.params.followText "set-order")&&(!t.plain&&decide (es.size > 1)))with
 |true=>
  simp only[↓reduceIte]
  refine wpAny_bind (gd es.size (List.range es.size) s (by simp) fun π d hp=>?_)
  have hl:π.length=es.size:=by rw[hp.length_eq,List.length_range]
  have hm:∀j∈π,j < es.size:=fun j hj=>List.mem_range.mp (hp.mem_iff.mp hj)
  refine wpAny_bind (wpAny_newTuple (s:={s with drawn:=d}) ?_ (by rw[dv,hl];exact fits_of_scanBound S.bound))
  have ha2:(s.heap.push {cls:=.type "tuple",data:=.seq (π.map fun(i:Nat)=>rawInt i).toArray}).get? a=some (bV es ep t):=dI _ ha
  refine wpAny_bind (wpAny_setEpoch_of (s:={s with drawn:=d,heap:=s.heap.push {cls:=.type "tuple",data:=.seq (π.map fun(i:Nat)=>rawInt i).toArray}}) ha2 rfl S.fits ?_)
  refine wpAny_bind (wpAny_newObj_type ?_)
  have hs1:(s.heap.push {cls:=.type "tuple",data:=.seq (π.map fun(i:Nat)=>rawInt i).toArray}).objs.size=s.heap.objs.size+1:=by rw[Heap.size_push]
  refine wpAny_pure ⟨_,rfl,"set_iterator",_,⟨_,gE _ rfl,rfl⟩,F.slot_next.lookup,?_⟩
  refine hQ _ _ _ _ (π.map (yE es)) (fun b o e=>dI _ (dI _ e)) (by rw[Heap.size_push,Heap.size_push];omega) rfl rfl rfl ?_ (by dsimp only;rw[hs1];omega)
   (fun A' hA=>qv hA (T:=s.heap.objs.size) (a:=a) (ep:=ep) (t:=t) π hm hl S.fits (by dsimp only;rw[hs1];exact eT (Nat.lt_succ_self _)) (by dsimp only;rw[hs1];exact eT (n_ hlt)))
   ⟨gE _ rfl,dI _ (gE _ rfl),dI _ ha2⟩ ?_
  ·intro b hb
   rcases Zap.mp hb with rfl |hb
   ·right;dsimp only;rw[hs1];omega
   rcases Zap.mp hb with rfl |hb
   ·right;exact dw _
   ·left;exact Zaf.mp hb
  ·refine(hp.map (yE es)).trans ?_
   rw[show(List.range es.size).map (yE es)=es.toList.map (·.2)from ?_]
   refine List.ext_getElem (by simp) fun i h1 h2=>?_
   have hi:i < es.size:=by simpa using h1
   simp[yE,hi]
 |false=>
  simp only[Bool.false_eq_true,↓reduceIte]
  refine wpAny_bind (wpAny_pure ?_)
  refine wpAny_bind (wpAny_setEpoch_of ha rfl S.fits ?_)
  refine wpAny_bind (wpAny_newObj_type ?_)
  refine wpAny_pure ⟨_,rfl,"set_iterator",_,⟨_,gE _ rfl,rfl⟩,F.slot_next.lookup,?_⟩
  have hfp:∀b∈[s.heap.objs.size,a],b=a∨s.heap.objs.size≤b:=fun b hb=>by
   rcases Zap.mp hb with rfl |hb
   ·right;exact dw _
   ·left;exact Zaf.mp hb
  cases hb:w.params.followText "set-order" with
  |true=>
   exact hQ _ _ _ _ ((pickOrder (w.params.setOrder a ep) es).toList.map (·.2)) (fun b o e=>dI _ e) (by rw[Heap.size_push];omega) rfl rfl rfl hfp (dw _)
    (fun A' hA=>ti hA (t:=t) hb S.fits (eT hlt)) ⟨gE _ rfl,dI _ ha⟩ ((kI _ es).map _)
  |false=>
   have hled:t.led=true:=by rw[S.led,gX,hb];rfl
   have hsz:es.size≤1:=by
    rw[hb]at hd
    by_cases z:es.size=0
    ·omega
    ·rw[S.plain z]at hd
     simp at hd
     omega
   exact hQ _ _ _ _ (es.toList.map (·.2)) (fun b o e=>dI _ e) (by rw[Heap.size_push];omega) rfl rfl rfl hfp (dw _)
    (fun A' hA=>ve hA (t:=t) hb hsz hled S.fits (eT hlt)) ⟨gE _ rfl,dI _ ha⟩ (List.Perm.refl _)
end
end NhSet
namespace NhSet
open PySem PyProof.Rows
namespace F
theorem xm:typeLookup (.type "set") "__len__"=pure (some (.builtin "set.__len__")):=by rw[typeLookup_type,builtinLookup_eq_fast];kernel_rfl
end F
section
variable {prog:Program} {w:World} {A:Around} {E:Value→Shared→Prop} {s:Shared}
theorem o5{a:Addr}{es:Array (Int×Value)}{ep:Nat}{t:SetTable}{ks:List Str}{Q:List Value→Shared→Prop}(hh:A.handled=none)(ha:s.heap.get? a=some (bV es ep t))(S:SS w (gX w) ks es t)
  (hQ:∀(s':Shared) (items:List Value),(∀b o,s.heap.get? b=some o→s'.heap.get? b=some o)→s'.gens=s.gens→s'.os=s.os→s.heap.objs.size≤s'.heap.objs.size→items.Perm (es.toList.map (·.2))→Q items s'):
  wpAny (model prog w) A (collect (.ref a)) Q E s:=by
 have hlt:a < s.heap.objs.size:=eB ha
 unfold collect
 refine wpAny_bind (wpAny_runValue (codeAny_builtin PySem.F.entry_proto_collect ?_))
 rw[Around.under_plainId PySem.F.plain_proto_collect _]
 show wpAny _ A.in1 (newList [] >>= fun l=>again (.builtin "list.__iadd__" ⟨[l,.ref a],[]⟩)) _ _ s
 refine wpAny_bind (wpAny_newObj_type ?_)
 refine wpAny_pure ⟨plainId_quiet PySem.F.plain_list_iadd _,codeAny_builtin PySem.F.entry_list_iadd ?_⟩
 rw[Around.under_plainId PySem.F.plain_list_iadd _]
 show wpAny _ A.in1 (Builtin.List.listExtendWith (.ref s.heap.objs.size) (.ref a) (.ref s.heap.objs.size)) _ _ _
 unfold Builtin.List.listExtendWith
 have ha1:(s.heap.push {cls:=.type "list",data:=.seq ([]:List Value).toArray}).get? a=some (bV es ep t):=dI _ ha
 have hT1:Shared.TypeIs {s with heap:=s.heap.push {cls:=.type "list",data:=.seq ([]:List Value).toArray}} (.ref a) "set":=⟨_,ha1,rfl⟩
 refine wpAny_bind (wpAny_typeOf hT1 ?_)
 have h1:Builtin.List.listSameRef (.ref s.heap.objs.size) (.ref a)=false:=by simp[Builtin.List.listSameRef];exact Nat.ne_of_gt hlt
 have h2:(Value.type "set" == Value.type "list")=false:=by decide
 have h3:(Value.type "set" == Value.type "tuple")=false:=by decide
 simp only[h1,h2,h3,Bool.or_false,ca]
 refine wpAny_bind (vf ha1 S fun s2 I fp St items k2 z2 g2 o2 t2 hfp hI W hst hp=>?_)
 have hT2:s2.TypeIs (.ref a) "set":=⟨_,k2 a _ ha1,rfl⟩
 refine wpAny_bind (wpAny_holding ?_)
 unfold Builtin.List.listLengthHint
 refine wpAny_bind (wpAny_specialOf hT2 F.xm ?_)
 wp_delta
 refine wpAny_bind (wpAny_isInstance (T:="set") (b:=true) hT2 sub_set_self ?_)
 show wpAny _ A.in1 (typeOf (Value.ref a) >>= _) _ _ _
 refine wpAny_bind (wpAny_typeOf hT2 ?_)
 refine wpAny_pure ?_
 rw[if_pos (by decide)]
 refine wpAny_bind (wpAny_rule ?_)
 have hS0:s2.heap.get? s.heap.objs.size=some {cls:=.type "list",data:=.seq ([]:List Value).toArray}:=k2 _ _ (gE _ rfl)
 refine wpAny_bind ?_
 show wpAny _ A.in1 (updateSeq s.heap.objs.size (·.push .none) >>= fun _=>updateSeq s.heap.objs.size (·.pop)) _ _ _
 refine wpAny_bind (wpAny_updateSeq hS0 rfl ?_)
 have hS2:=Heap.get?_update_self (Obj.mapSeq (·.push Value.none)) hS0 rfl
 refine wpAny_updateSeq hS2 rfl ?_
 have hS3:=Heap.get?_update_self (Obj.mapSeq (·.pop)) hS2 rfl
 have oth:∀b o,b≠s.heap.objs.size→s2.heap.get? b=some o→
   ((s2.heap.update s.heap.objs.size (Obj.mapSeq (·.push Value.none))).update s.heap.objs.size (Obj.mapSeq (·.pop))).get? b=some o:=
  fun b o hb e=>(Heap.get?_update_other _ _ (Ne.symm hb)).trans ((Heap.get?_update_other _ _ (Ne.symm hb)).trans e)
 have hz1:(s.heap.push {cls:=.type "list",data:=.seq ([]:List Value).toArray}).objs.size=s.heap.objs.size+1:=by rw[Heap.size_push]
 have hnS:∀b,(s.heap.push {cls:=.type "list",data:=.seq ([]:List Value).toArray}).objs.size≤b→b≠s.heap.objs.size:=fun b hb e=>by
  rw[hz1,e]at hb;exact Nat.not_succ_le_self _ hb
 have hSf:s.heap.objs.size∉fp:=fun hm=>by
  rcases hfp _ hm with e |e
  ·exact absurd e (Nat.ne_of_gt hlt)
  ·exact hnS _ e rfl
 have hlen:items.length≤sizeLine:=by
  rw[hp.length_eq];simpa using fits_of_scanBound S.bound
 refine wpAny_pure ⟨plainId_quiet PySem.F.plain_extend_loop _,codeAny_extend_loopS (W A.in1 (by simp[hh])).toS hlen _ hSf _ items.length 0 _ _ _ rfl (Nat.zero_le _)
  ((W A.in1 (by simp[hh])).frame 0 s2.heap _ hst fun b hb o e=>oth b o (fun z=>hSf (z▸hb)) e) hS3 (ItemsOf.nil _) fun s' acc' c' hm hS' hacc=>?_⟩
 show wpAny _ A (load s.heap.objs.size >>= _) _ _ s'
 refine wpAny_bind (wpAny_load hS' ?_)
 have hacc':acc'.toList=items:=by
  refine List.ext_getElem? fun i=>?_
  rw[Array.getElem?_toList]
  by_cases hi:i < acc'.size
  ·rw[Array.getElem?_eq_getElem hi]
   exact(hacc.2 i _ (Array.getElem?_eq_getElem hi)).symm
  ·rw[Array.getElem?_eq_none (by omega),List.getElem?_eq_none (by rw[←hacc.1];omega)]
 refine wpAny_pure ?_
 rw[hacc']
 refine hQ s' items (fun b o e=>?_) (hm.gens.trans g2) (hm.os.trans o2) (g7 (eB hS')) hp
 have hb:b < s.heap.objs.size:=eB e
 refine hm.heap b o (fun z=>?_) (oth b o (eT hb) (k2 b o (dI _ e)))
 rcases Zap.mp z with z |z
 ·exact absurd z (eT hb)
 ·rw[Zaf.mp z]at hb
  have hI':s.heap.objs.size+1≤I:=by rw[←hz1];exact hI
  exact absurd (i7 (Nat.lt_succ_self _) hI') (Nat.lt_asymm hb)
theorem qx{a:Addr}{ks:List Str}{Q:Value→Shared→Prop}(hh:A.handled=none)(hS:StrSet w s.heap a (gX w) ks)(h64:ks.length < 64)
  (h:∀(s':Shared) (l:Addr) (out:Array Value) (e:Nat) (ss':List Str),(∀b o,s.heap.get? b=some o→s'.heap.get? b=some o)→s'.gens=s.gens→s'.os=s.os→s.heap.objs.size≤l→s'.heap.get? l=some (seqObj "list" out e)→StrsAre out.toList ss'→ss'.Perm ks→sortedS ss'=true→Q (.ref l) s'):
  wpAny (model prog w) A (call (.builtin "sorted") [.ref a]) Q E s:=by
 obtain⟨es,ep,t,ha,S⟩:=hS
 refine Calls.call_function_entry kind_sorted plain_sorted entry_sorted (args_sorted1 _) ?_
 unfold Builtin.«sorted»
 refine wpAny_bind (m:=checkCount "sorted" 1 1 _) (wpAny_pure ?_)
 refine wpAny_bind (o5 (by simp[hh]) ha S fun s1 items k1 g1 o1 hsz hp=>?_)
 have hpk:(items.map strOf).Perm ks:=(hp.map strOf).trans (by rw[List.map_map];exact S.perm)
 have hst:∀v∈items,∃x tk,v=.str x tk:=fun v hv=>by
  obtain⟨e,he,rfl⟩:=List.mem_map.mp (hp.mem_iff.mp hv)
  obtain⟨x,tk,rfl⟩:=S.elems e he
  exact⟨x,tk,rfl⟩
 have hSA:=strsAre_map items hst
 have hl64:items.length < 64:=by have:=hpk.length_eq;rw[dv]at this;omega
 refine wpAny_bind (wpAny_newList ?_)
 have hoL:(s1.heap.push (seqObj "list" items.toArray 0)).get? s1.heap.objs.size=some (seqObj "list" items.toArray 0):=gE _ rfl
 refine wpAny_bind (wpAny_holding (wpAny_call_entry slot_list_sort ⟨_,hoL,rfl⟩ entry_list_sort (list_sort_treeK (s:={s1 with heap:=s1.heap.push (seqObj "list" items.toArray 0)}) strKind_oneLt hoL hSA.keysOf (fun v₁ v₂ aA e=>keyKind_strs (by rw[←e];exact hSA)) hl64 fun st' a1 a2=>⟨_,rfl,?_⟩) (args_list_sort _)))
 obtain⟨ss',b1,b2,b3⟩:=sorted_out_str hSA a1 a2
 obtain⟨e,he⟩:=sortedHeap_at (out:=(arrOf st').map (·.2)) hoL
 refine wpAny_pure ⟨_,rfl,h _ s1.heap.objs.size _ e ss' (fun b o hb=>?_) g1 o1 hsz he b1 (b2.trans hpk) b3⟩
 have hb1:=k1 b o hb
 have hlt:=eB hb1
 dsimp only
 rw[sortedHeap_old (eT hlt) (by rw[size_push'];exact n_ hlt),Heap.get?_push_ne _ _ _ (eT hlt)]
 exact hb1
end
end NhSet
namespace PL
open PySem L2 Nh
def tj(w:World)(a:Addr)(ks:List Str):HO:=.ext fun h=>NhSet.StrSet w h a (NhSet.gX w) ks
theorem vg(ns:List Str)(n:Nat)(h:n=ns.length):NhSet.ij (fun i=>ns.getD i ⟨#[]⟩) n=gv ns:=by
 have e:(List.range n).map (fun i=>ns.getD i ⟨#[]⟩)=ns:=by
  subst h
  refine List.ext_getElem (by simp) fun i h1 h2=>?_
  simp[h2]
 show((List.range n).map (fun i=>ns.getD i ⟨#[]⟩)).foldl NhSet.jX []=ns.foldl wn []
 rw[e]
 rfl
theorem tz(x:Str):NhSet.ij (NhSet.fU x) x.cps.size=gv (iP x):=by
 have e:(List.range x.cps.size).map (NhSet.fU x)=iP x:=by
  refine List.ext_getElem (by simp[iP]) fun i h1 h2=>?_
  have hi:i < x.cps.size:=by simpa using h1
  simp[iP,NhSet.fU,hi]
 show((List.range x.cps.size).map (NhSet.fU x)).foldl NhSet.jX []=(iP x).foldl wn []
 rw[e]
 rfl
section
variable {X:Cx} {e:Expr} {m1:Bool} {f:aO} {p p2 pos pos2:Pos}
def Ct(K:Frag)(w:World):List V→Hp→VK→Prop:=fun xs H Q=>
 (∃(p:Addr) (ss:List Str),xs=[.ref p]∧SqL K H p (ss.map V.str)∧ss.length < 4000∧∀a,H a=none→Q (.ref a) (upd H a (tj w a (gv ss))))∨
 ∃x:Str,xs=[.str x]∧(iP x).length < 4000∧∀a,H a=none→Q (.ref a) (upd H a (tj w a (gv (iP x))))
theorem tB(hc:X.calm=true):CallR X (.type "set") (Ct X.K X.w):=by
 intro pins s σ H xs us Q I r h
 rcases h with⟨p,ss,rfl,hq,hl,q⟩ |⟨x,rfl,hl,q⟩
 ·cases r with
  |cons r rr=>
   cases rr
   cases r
   obtain⟨its,rv,pl,hz⟩:=I.list hq
   have hS:=kF rv
   have hlen:its.length=ss.length:=by have:=rv.length;simpa using this.symm
   refine NhSet.sY (I.ok.hd hc) pl.isList (by simpa using hS) (by simp only[jE,scanBound];omega) fun h' tk S k=>?_
   rw[vg ss its.toArray.size (by simpa using hlen)]at S
   exact⟨.ref s.heap.objs.size,_,I.laid (fun b o e=>k b o (eB e) e) (dw _) (show ObjOk X.prog X.w _ _ _ (tj X.w s.heap.objs.size (gv ss))from⟨S,S.obj,fun h1 h2 T kk=>T.at' kk⟩),rfl,q _ (I.hok.fresh (dw _))⟩
 ·cases r with
  |cons r rr=>
   cases rr
   obtain⟨t,rfl⟩:=r
   have hl2:x.cps.size < 4000:=by simpa[iP]using hl
   refine NhSet.vd (I.ok.hd hc) (by simp only[scanBound];omega) fun h' tk S k=>?_
   rw[tz]at S
   exact⟨.ref s.heap.objs.size,_,I.laid (fun b o e=>k b o (eB e) e) (dw _) (show ObjOk X.prog X.w _ _ _ (tj X.w s.heap.objs.size (gv (iP x)))from⟨S,S.obj,fun h1 h2 T kk=>T.at' kk⟩),rfl,q _ (I.hok.fresh (dw _))⟩
def vh(w:World):List V→Hp→VK→Prop:=fun xs H Q=>∃(a:Addr) (ks:List Str),xs=[.ref a]∧H a=some (tj w a ks)∧ks.length < 64∧∀l,H l=none→Q (.ref l) (upd H l (.lst ((gc ks).map V.str)))
theorem nC(hc:X.calm=true):CallR X (.builtin "sorted") (vh X.w):=by
 intro pins s σ H xs us Q I r h
 obtain⟨a,ks,rfl,ha,h64,q⟩:=h
 cases r with
 |cons r rr=>
  cases rr
  cases r
  obtain⟨S,_,_⟩:ObjOk X.prog X.w H s.heap a (tj X.w a ks):=I.hok a _ ha
  refine NhSet.qx (I.ok.hd hc) S h64 fun s' l out e ss' k g o hl he b1 b2 b3=>?_
  have:=kE b2 b3
  subst this
  have new:ObjOk X.prog X.w (upd H l (.lst ((gc ks).map V.str))) s'.heap l (.lst ((gc ks).map V.str)):=⟨by rw[dv,jm];exact eX (by omega),out.toList,e,kG b1,he⟩
  exact⟨.ref l,_,I.call' (ch:=[]) o (Un.laid k hl (I.hok.fresh hl)) (I.hok.laid k hl new) (by rw[g];exact I.bare) (fun _ z=>nomatch z),rfl,q _ (I.hok.fresh hl)⟩
theorem kM (hc:X.calm=true) (hg:Gl X "sorted") (hm:X.mg "sorted"=none) (hg2:Gl X "set") (hm2:X.mg "set"=none) (ha:EX X e m1 f) (he:starEach [e] X.env=[(false,eval e X.env)]:=by rfl)
  (he2:starEach [.Call (.Name "set" p2) [e] [] pos2] X.env=[(false,eval (.Call (.Name "set" p2) [e] [] pos2) X.env)]:=by rfl):EX X (.Call (.Name "sorted" p) [.Call (.Name "set" p2) [e] [] pos2] [] pos) m1 (dY f):=by
 refine bv (iF (nC hc) hg hm PyProof.Rows.boot_sorted (cV (l7 (tB hc) hg2 hm2 PyProof.Rows.boot_set (cV ha eW he) (by decide) (by decide) he rfl) eW he2) (by decide) (by decide) he2 rfl) fun σ H Q z=>?_
 obtain⟨B,E,xs,Xs,res,E',fr,cl,e,q⟩:=z
 obtain⟨⟨s,E1⟩,e1,e⟩:=Za.mp e
 refine⟨B,E,xs,Xs,s,E1,fr,cl,e1,fun v1 H1 ⟨F,A,fr1⟩=>?_⟩
 obtain⟨A',fr2⟩:=fr1.pop
 simp only at e
 split at e
 ·rename_i ds ld
  obtain⟨ss,es,e⟩:=Za.mp e
  split at e
  ·rename_i hc
   cases e
   have r:=(fr1.look0 ld).1
   cases r with
   |lst h1 h2=>
    have:=ke h2 es
    subst this
    exact .inl ⟨_,ss,rfl,h1,hc.1,fun a ha=>⟨a,_,rfl,bF,hc.2,fun l hl=>q _ _ ⟨_,_,(fr2.grow (fE ha _)).newl (gu _) hl⟩⟩⟩
  ·cases e
 ·rename_i x ld
  split at e
  ·rename_i hc
   cases e
   have r:=(fr1.look0 ld).1
   cases r
   exact .inr ⟨x,rfl,hc.1,fun a ha=>⟨a,_,rfl,bF,hc.2,fun l hl=>q _ _ ⟨_,_,(fr2.grow (fE ha _)).newl (gu _) hl⟩⟩⟩
  ·cases e
 ·cases e
end
end PL
namespace PL
open PySem L2 Nh
theorem xn {X:Cx} {x:Str} {i:Int} {t:Tok} {pos:Pos} (hg:Gl X x) (hm:X.mg x=some (.int i t)) (hd:(x == ("__debug__":Str))=false:=by decide):EX X (.Name x pos) false (pC (.int i)):=by
 refine bv (qU (v:=.int i) hg hm ⟨t,rfl⟩ hd) fun σ H Q z=>?_
 obtain⟨B,E,xs,Xs,res,E',⟨F,A,fr⟩,cl,e,q⟩:=z
 cases e
 exact q _ _ ⟨F,A,fr.push ⟨rfl,_,rfl,.int _⟩⟩
theorem xo {X:Cx} {x y:Str} {t:Tok} {pos:Pos} (hg:Gl X x) (hm:X.mg x=some (.str y t)) (hd:(x == ("__debug__":Str))=false:=by decide):EX X (.Name x pos) false (pC (.str y)):=by
 refine bv (qU (v:=.str y) hg hm ⟨t,rfl⟩ hd) fun σ H Q z=>?_
 obtain⟨B,E,xs,Xs,res,E',⟨F,A,fr⟩,cl,e,q⟩:=z
 cases e
 exact q _ _ ⟨F,A,fr.push ⟨rfl,_,rfl,.str _⟩⟩
end PL
namespace Nh
open PySem L2
theorem NailsOk.stp{r:List Pc}{p:Pc}(h:NailsOk r)(hp:p.1 < 128):NailsOk (NH.stp r p):=by
 cases r with
 |nil=>
  show NailsOk (if p.2=0 then []else [p])
  split
  ·exact h
  ·intro q hq;rw[Zaf.mp hq];exact hp
 |cons x r=>
  rw[NH.iG]
  intro q hq
  rcases Zao.mp hq with h1 |h1
  ·unfold NH.yq at h1
   split at h1
   ·split at h1
    ·cases h1
    ·rw[Zaf.mp h1];exact hp
   ·split at h1
    ·rw[Zaf.mp h1];exact h x (f_ ..)
    ·rcases Zap.mp h1 with h2 |h2
     ·rw[h2];exact hp
     ·rw[Zaf.mp h2];exact h x (f_ ..)
  ·exact h q (fD _ h1)
theorem NailsOk.foldl:∀(c:List Pc) {r:List Pc},NailsOk r→NailsOk c→NailsOk (c.foldl NH.stp r)
 |[],_,h,_=>h
 |p::c,_,h,hc=>NailsOk.foldl c (h.stp (hc p (f_ ..))) fun q hq=>hc q (fD _ hq)
theorem NailsOk.take{c:List Pc}(h:NailsOk c)(i:Nat):NailsOk (c.take i):=fun p hp=>h p (List.mem_of_mem_take hp)
theorem NailsOk.drop{c:List Pc}(h:NailsOk c)(i:Nat):NailsOk (c.drop i):=fun p hp=>h p (List.mem_of_mem_drop hp)
theorem NailsOk.reverse{c:List Pc}(h:NailsOk c):NailsOk c.reverse:=fun p hp=>h p (List.mem_reverse.mp hp)
theorem NailsOk.append{c d:List Pc}(h:NailsOk c)(h':NailsOk d):NailsOk (c++d):=fun p hp=>(Zao.mp hp).elim (h p) (h' p)
theorem NailsOk.short{c:List Pc}(h:NailsOk c):NailsOk (NH.short c):=(NailsOk.foldl c (fun _ z=>by cases z) h).reverse
end Nh
namespace Nh
open PySem L2 PL
theorem NailsOk.rep{c:List Pc}(h:NailsOk c)(k:Nat):NailsOk (List.replicate k c).flatten:=fun p hp=>by
 obtain⟨l,hl,hpl⟩:=List.mem_flatten.mp hp
 rw[(List.mem_replicate.mp hl).2]at hpl
 exact h p hpl
theorem NailsOk.cutL{c:List Pc}(h:NailsOk c)(lo hi:Option Int):NailsOk (cutL c lo hi):=fun p hp=>h p (u0 hp)
def l4(i:Int):Nat:=[97,98,99,122].getD i.toNat 97
theorem BF:∀j,j < 26→(Str.ofString "abcdefghijklmnopqrstuvwxyz").cps.toList[j]? =some (97+j):=by decide+kernel
theorem Cu(v:Int):atI (Str.ofString "abcdefghijklmnopqrstuvwxyz").cps.toList (v % 26)=some (97+(v % 26).toNat):=by
 have h0:=Int.emod_nonneg v (show(26:Int)≠0 by decide)
 have h1:=Int.emod_lt_of_pos v (show(0:Int) < 26 by decide)
 rw[zQ h0]
 exact BF _ (by omega)
theorem zW:(Str.ofString "abcdefghijklmnopqrstuvwxyz").length≤1000000:=by decide+kernel
theorem nD{i j:Int}(h1: -(2 ^ 64) < j)(h2:j < 2 ^ 64):fj i j=true:=by
 simp only[fj,Bool.or_eq_true,decide_eq_true_eq]
 exact .inl (.inr ⟨h1,h2⟩)
theorem rF{i j:Int}(h1: -(2 ^ 64) < i)(h2:i < 2 ^ 64):fj i j=true:=by
 simp only[fj,Bool.or_eq_true,decide_eq_true_eq]
 exact .inl (.inl ⟨h1,h2⟩)
theorem vi{j:Int}(h1:0 < j)(h2:j < 2 ^ 200):gV j=true:=decide_eq_true ⟨h1,h2⟩
theorem rG(i j:Int):w_ (.int i) (.int j)=some (decide (i=j)):=rfl
theorem xp(i j:Str):w_ (.str i) (.str j)=some (decide (i=j)):=rfl
end Nh
namespace L2
open PySem PySem.Spec PyProof.Rows
def rH(K:Frag)(h:Heap):Prop:=∀b q,jS K b=some q→h.get? b=some (tabObj #[])∧(∃c,PySem.W.CodeHd h c b)∧K.lookup b=none
def cC(K:Frag)(a:Addr)(so:Option HO):Hp:=fun b=>match jS K b with
 |some q=>some (.tbl q)
 |none=>if b=a then so else none
theorem qy{K:Frag}{a b:Addr}{so:Option HO}{q:Str}(e:jS K b=some q):cC K a so b=some (.tbl q):=by unfold cC;rw[e]
theorem tD{K:Frag}{a:Addr}{so:Option HO}(e:jS K a=none):cC K a so a=so:=by unfold cC;rw[e];exact if_pos rfl
theorem dZ{K:Frag}{a b:Addr}{so:Option HO}{u:HO}(e:cC K a so b=some u):(∃q,jS K b=some q∧u=.tbl q)∨(b=a∧so=some u):=by
 unfold cC at e
 split at e
 ·rename_i q h;cases e;exact .inl ⟨q,h,rfl⟩
 ·by_cases hb:b=a
  ·rw[if_pos hb]at e;exact .inr ⟨hb,e⟩
  ·rw[if_neg hb]at e;cases e
section
variable {P:Program} {w:World} {K:Frag} {mg mb:Str→Option Value} {CX:qZ} {k:Nat} {fa a:Addr} {fd:FuncData} {x:Str} {sp:Sp} {s₁:Shared} {vs:List Value} {ns:List Int}
theorem xq (KX:K.In s₁.heap) (hns:s₁.heap.Ns mainGlobals mg) (hb:s₁.heap.Ns builtinsNs mb) (hbb:∀x:Str,x≠"__name__"→mb x=bootBuiltins x) (hlim:s₁.heap.NoLimit) (hg:s₁.gens=#[]) (hbm:∃bm ob,mg "__builtins__"=some (.ref bm)∧bm≠builtinsNs∧s₁.heap.get? bm=some ob∧ob.cls=.type "module"∧ob.dict=some builtinsNs∧ob.data=.plain) (hT:rH K s₁.heap)
  (ha:s₁.heap.get? a=some {cls:=.type "list",data:=.seq vs.toArray}) (hi:IntsAre vs ns) (hl:ns.length≤sizeLine) (hr:Room k callerA)
  (F:∀base:Heap,K.In base→base.Ns mainGlobals mg→FnOk P w K mg base CX k fa fd [x] sp) (hbind:∀(s:Shared) (u:Value),BindsTo s fd ⟨[u],[]⟩ [(x,u)])
  (hsp:∀H:Hp,SqL K H a (ns.map V.int)→sp [.ref a] H (fun v _=>v=.bl true) fun _ _ _=>False)
  (hCX:∀H e s',CX [] H s₁ (fun _ _ _=>False) e s'→False):
  codeAny (model P w) callerA (.call (.ref fa) ⟨[.ref a],[]⟩) (fun r s'=>r=.ok (.ret (.bool true))∧OldK s₁.heap s'.heap∧s'.os=s₁.os∧AllBare s'.gens) s₁:=by
 have rv:=gI hi
 have lenV:=hi.length
 have tabA:jS K a=none:=by
  cases q:jS K a with
  |none=>rfl
  |some z=>
   have e:=(hT a z q).1
   rw[ha]at e
   cases e
 have main:∀so:Option HO,(so=none∨(so=some (.frz {cls:=.type "list",data:=.seq vs.toArray} (.lst (ns.map V.int)))∧K.lookup a=none))→SqL K (cC K a so) a (ns.map V.int)→
   codeAny (model P w) callerA (.call (.ref fa) ⟨[.ref a],[]⟩) (fun r s'=>r=.ok (.ret (.bool true))∧OldK s₁.heap s'.heap∧s'.os=s₁.os∧AllBare s'.gens) s₁:=by
  intro so hso hS
  have hok:HOk P w (cC K a so) s₁.heap:=fun b u e=>by
   rcases dZ e with⟨q,e1,rfl⟩ |⟨rfl,e1⟩
   ·exact ObjOk.tbl0 (hT b q e1).1
   ·rcases hso with z |⟨z,_⟩
    ·rw[z]at e1;cases e1
    ·rw[z]at e1;cases e1
     exact⟨ha,by rw[dv];exact hl,vs,_,rv,ha⟩
  have free:∀{b:Addr} {o:Obj} {es:Array DictEntry} {ep:Nat},s₁.heap.get? b=some o→o.data=.dict es ep→cC K a so b=none:=fun {b o es ep} e d=>by
   cases q:cC K a so b with
   |none=>rfl
   |some u=>
    rcases dZ q with⟨z,e1,_⟩ |⟨rfl,_⟩
    ·rw[(hT b z e1).1]at e;cases e;cases d
    ·rw[ha]at e;cases e;cases d
  have nsK:∀{b:Addr} {m:Str→Option Value},s₁.heap.Ns b m→(oa s₁.heap (cC K a so)).Ns b m:=fun {b m} ⟨o,es,ep,e,d,r⟩=>⟨o,es,ep,kh e (free e d),d,r⟩
  have kin:K.In (oa s₁.heap (cC K a so)):=fun b o e=>kh (KX b o e) (by
   cases q:cC K a so b with
   |none=>rfl
   |some u=>
    rcases dZ q with⟨z,e1,_⟩ |⟨rfl,e1⟩
    ·rw[(hT b z e1).2.2]at e;cases e
    ·rcases hso with z |⟨_,z⟩
     ·rw[z]at e1;cases e1
     ·rw[z]at e;cases e)
  have bmK:∃bm ob,mg "__builtins__"=some (.ref bm)∧bm≠builtinsNs∧(oa s₁.heap (cC K a so)).get? bm=some ob∧ob.cls=.type "module"∧ob.dict=some builtinsNs∧ob.data=.plain:=by
   obtain⟨bm,ob,c1,c2,c3,c4,c5⟩:=hbm
   refine⟨bm,ob,c1,c2,kh c3 ?_,c4,c5⟩
   cases q:cC K a so bm with
   |none=>rfl
   |some u=>
    rcases dZ q with⟨z,e1,_⟩ |⟨rfl,_⟩
    ·rw[(hT bm z e1).1]at c3;cases c3;cases c4
    ·rw[ha]at c3
     cases c3
     injection c4 with c6
     exact absurd c6 (by decide)
  have e0:Env0 P w K mg (oa s₁.heap (cC K a so)) callerA [] s₁ (cC K a so):=
   ⟨rfl,⟨kin,nsK hns,⟨mb,nsK hb,hbb⟩,let ⟨mc,h1,h2⟩:=hlim;⟨mc,nsK h1,h2⟩,bmK⟩,fun b o e=>wq e,Nat.le_of_eq (sq _ _),trivial,fun b hb=>absurd (show b∈([]:List Addr)from hb) (by simp),hok,.of_eq hg,fun b q e=>qy e⟩
  refine codeAny_mono ((F _ kin (nsK hns)).run callerA [] s₁ _ ⟨[.ref a],[]⟩ [.ref a] [.ref a] _ _ hr e0 (hbind s₁ (.ref a)) (.cons rfl .nil) (hsp _ hS)) fun r s' h=>?_
  cases r with
  |error e=>exact(hCX _ e s' h).elim
  |ok fl=>
   cases fl with
   |next=>exact False.elim h
   |brk=>exact False.elim h
   |cont=>exact False.elim h
   |ret u=>
    obtain⟨v,H',os,bare,un,hok',r',q⟩:=h
    have q':v=.bl true:=q
    subst q'
    obtain rfl:u=Value.bool true:=r'
    have nofs:∀b,b∉sr ([]:List Env):=fun b z=>absurd (show b∈([]:List Addr)from z) (by simp)
    have step:∀b o,s₁.heap.get? b=some o→asItWas s₁.heap s'.heap b o∧∃o',s'.heap.get? b=some o':=fun b o e=>by
     cases q:cC K a so b with
     |none=>exact⟨.inl (un.keep b o e q (nofs b) (by simp)),_,un.keep b o e q (nofs b) (by simp)⟩
     |some u=>
      rcases dZ q with⟨z,e1,rfl⟩ |⟨rfl,e1⟩
      ·obtain⟨t1,⟨c,t2⟩,_⟩:=hT b z e1
       obtain⟨ps,p1,_⟩:=hok' b _ (un.tbls b z q)
       rw[t1]at e
       cases e
       exact⟨.inr (.inl ⟨(t2.tab t1).isCodeTable,rfl,#[],ps,rfl,by simpa using p1⟩),_,p1⟩
      ·rcases hso with z |⟨z,_⟩
       ·rw[z]at e1;cases e1
       ·rw[z]at e1;cases e1
        have z2:=un.frzs b _ _ q
        obtain⟨e2,_⟩:=hok' b _ z2
        rw[ha]at e;cases e
        exact⟨.inl e2,_,e2⟩
    exact⟨rfl,⟨fun b o e=>(step b o e).1,fun b o e=>(step b o e).2⟩,os,bare⟩
 cases hk:K.lookup a with
 |some o=>
  have e:=KX a o hk
  rw[ha]at e
  cases e
  exact main none (.inl rfl) (.inr ⟨_,vs.toArray,_,hk,rfl,rfl,rfl,by rw[jE,lenV];exact hl,by simpa using rv⟩)
 |none=>exact main _ (.inr ⟨rfl,hk⟩) (.inl (.inr ⟨_,tD tabA⟩))
end
theorem vj{l:OpenLaw}{n k:Nat}{q:Program}{loose:List Str}{XP:(Str→Option Value)→Heap→Prop}{YP:World→Heap→Prop}{d:DefRec}{K:Params→Frag}{CX:World→qZ}{sp:World→Sp}{x:Str}
  (hn:l.most=some n) (hn2:n≤sizeLine) (hdf:d.params.defaults=[]) (hr:Room k callerA)
  (hY:∀(w:World) (h:Heap),YP w h→(K w.params).In h∧rH (K w.params) h)
  (F:∀(w:World) (mg:Str→Option Value) (fa:Addr) (h:Heap),(K w.params).In h→h.Ns mainGlobals mg→mg d.name=some (.ref fa)→
   ∃fd:FuncData,(∀(s:Shared) (u:Value),BindsTo s fd ⟨[u],[]⟩ [(x,u)])∧
    ∀base:Heap,(K w.params).In base→base.Ns mainGlobals mg→FnOk l.prog w (K w.params) mg base (CX w) k fa fd [x] (sp w))
  (hsp:∀(w:World) (H:Hp) (a:Addr) (ns:List Int),ns.length≤n→SqL (K w.params) H a (ns.map V.int)→sp w [.ref a] H (fun v _=>v=.bl true) fun _ _ _=>False)
  (hCX:∀(w:World) (H:Hp) (s:Shared) (e:Value) (s':Shared),CX w [] H s (fun _ _ _=>False) e s'→False):
  PySem.W.WalkO q loose XP YP l.row.toRowW d [] (fun f vs=>PySem.call f vs):=by
 refine Att.oo hn hdf fun w s₀ s₁ mg mb fa o pm cd doc a vs ns G Y ho hd hcd hmg hobj hints hlen hg=>?_
 obtain⟨KX,KT⟩:=hY w _ Y
 obtain⟨fd,hb,hF⟩:=F w mg fa _ KX G.T.g hmg
 exact xq KX G.T.g G.T.b G.T.builtins G.T.nolimit hg G.T.bmain KT hobj hints (gG hlen hn2) hr hF hb (fun H hS=>hsp w H a ns hlen hS) fun H e s'=>hCX w H s₁ e s'
end L2
namespace NH
def cg(w:List Nat):Nat→Nat
 | 0=>0
 |n+1=>cg w n+if 97+n∈w then 2 ^ n else 0
theorem mr(w:List Nat):∀n,cg w n < 2 ^ n
 | 0=>by simp[cg]
 |n+1=>by
  have:=mr w n
  rw[cg,Nat.pow_succ]
  split <;> omega
theorem dN(w:List Nat):∀n i,(cg w n).testBit i=(decide (i < n)&&decide (97+i∈w))
 | 0,i=>by simp[cg]
 |n+1,i=>by
  have ih:=dN w n i
  have lt:=mr w n
  rw[cg]
  by_cases h:97+n∈w
  ·rw[if_pos h,Nat.add_comm]
   by_cases e:i=n
   ·subst e
    rw[Nat.testBit_two_pow_add_eq,ih]
    simp[h]
   ·by_cases l:i < n
    ·rw[Nat.testBit_two_pow_add_gt l,ih]
     simp[l,show i < n+1 by omega]
    ·have big:2 ^ n+cg w n < 2 ^ i:=by
      have:2 ^ (n+1)≤2 ^ i:=Nat.pow_le_pow_right (by decide) (by omega)
      rw[Nat.pow_succ]at this
      omega
     rw[Nat.testBit_lt_two_pow big]
     simp[show ¬i < n+1 by omega]
  ·rw[if_neg h,Nat.add_zero,ih]
   by_cases e:i=n
   ·subst e;simp[h]
   ·by_cases l:i < n
    ·simp[l,show i < n+1 by omega]
    ·simp[l,show ¬i < n+1 by omega]
def a8(w:List Nat):Nat:=cg w 26
def lG(w:List Nat):Prop:=∀a∈w,97≤a∧a < 97+26
theorem tE{a b:List Nat}(ha:lG a):a8 a &&& a8 b=a8 a↔∀x∈a,x∈b:=by
 unfold a8
 constructor
 ·intro h x hx
  have l:=ha x hx
  have:=congrArg (fun n=>n.testBit (x - 97)) h
  simp only[Nat.testBit_and,dN,show 97+(x - 97)=x by omega,show x - 97 < 26 by omega,hx]at this
  simpa using this
 ·intro h
  refine Nat.eq_of_testBit_eq fun i=>?_
  rw[Nat.testBit_and,dN,dN]
  by_cases m:97+i∈a
  ·simp[m,h _ m]
  ·simp[m]
theorem tF{a b:List Nat}(ha:lG a):a8 a &&& a8 b=0↔∀x∈a,x∉b:=by
 unfold a8
 constructor
 ·intro h x hx hb
  have l:=ha x hx
  have:=congrArg (fun n=>n.testBit (x - 97)) h
  simp only[Nat.testBit_and,dN,show 97+(x - 97)=x by omega,show x - 97 < 26 by omega,hx,hb]at this
  simp at this
 ·intro h
  refine Nat.eq_of_testBit_eq fun i=>?_
  rw[Nat.testBit_and,dN,dN,Nat.zero_testBit]
  by_cases m:97+i∈a
  ·simp[m,h _ m]
  ·simp[m]
end NH
namespace NhLS
set_option autoImplicit false
open PySem PyProof.Rows
def xr:Bool→Keyed→Array Keyed→Nat→Nat→Nat→StateT SortSt Sem (Option Nat):=sortPriv% PySem.Builtin.gallop
def vk:Array Keyed→Array Keyed→StateT SortSt Sem (Array Keyed):=sortPriv% PySem.Builtin.mergeLo
def vm:Array Keyed→Array Keyed→StateT SortSt Sem (Array Keyed):=sortPriv% PySem.Builtin.mergeHi
def xt:Keyed:=(Value.none,Value.none)
def at'(a:Array Keyed)(i:Nat):Keyed:=a.getD i xt
theorem BG{a:Array Keyed}{i:Nat}(h:i < a.size):a[i]? =some (at' a i):=by simp[at',Array.getD,h]
structure Cmp (prog:Program) (w:World) (A:Around) (s:Shared) (κ:SortKind) (O:KeyOrd) (key:Keyed→O.α) (dom:Keyed→Prop):Prop where
 ask:∀(E:Value→Shared→Prop) (x y:Keyed) (Q:Bool→Shared→Prop),dom x→dom y→Q (O.blt (key x) (key y)) s→wpAny (model prog w) A (keyLt' κ x.1 y.1) Q E s
section
variable {prog:Program} {w:World} {A:Around} {E:Value→Shared→Prop} {s:Shared} {κ:SortKind} {O:KeyOrd} {key:Keyed→O.α} {dom:Keyed→Prop} {st:SortSt}
theorem vn(C:Cmp prog w A s κ O key dom){x y:Keyed}{Q:Option Bool→SortSt→Prop}(hk:kindOf st=κ)(dx:dom x)(dy:dom y)(h:Q (some (O.blt (key x) (key y))) st):wpS (model prog w) A E s (lt' x y) Q st:=by
 rw[lt'_eq]
 refine wpS_bind (wpS_get ?_)
 rw[hk]
 refine wpS_bind (wpS_lift (wpAny_attempt (C.ask _ _ _ _ dx dy ⟨rfl,?_⟩)))
 exact wpS_pure h
theorem e8{arr:Array Keyed}{i:Nat}{Q:Keyed→SortSt→Prop}(hi:i < arr.size)(h:Q (at' arr i) st):wpS (model prog w) A E s (elem' arr i) Q st:=by
 rw[elem'_eq,BG hi]
 exact wpS_pure h
def fg(O:KeyOrd)(key:Keyed→O.α)(left:Bool)(k:Keyed)(arr:Array Keyed)(base i:Nat):Bool:=if left then O.blt (key (at' arr (base+i))) (key k)else !O.blt (key k) (key (at' arr (base+i)))
theorem fK(C:Cmp prog w A s κ O key dom){left:Bool}{k:Keyed}{arr:Array Keyed}{base n hint:Nat}{Q:Option Nat→SortSt→Prop}(hk:kindOf st=κ)(hh:hint < n)(hb:base+n≤arr.size)(dk:dom k)(da:∀i,i < arr.size→dom (at' arr i))
  (mono:∀i j,i < j→j < n→fg O key left k arr base j=true→fg O key left k arr base i=true)
  (h:∀m,m≤n→(∀i,i < m→fg O key left k arr base i=true)→(∀i,m≤i→i < n→fg O key left k arr base i=false)→Q (some m) st):wpS (model prog w) A E s (xr left k arr base n hint) Q st:=by
 have bey:∀{i:Nat} {Q':Option Bool→SortSt→Prop},i < n→Q' (some (fg O key left k arr base i)) st→wpS (model prog w) A E s (elem' arr (base+i) >>= fun x=>if left=true then lt' x k else (lt' k x >>= fun r=>pure (r.map (!·)))) Q' st:=by
  intro i Q' hi hq
  refine wpS_bind (e8 (by lia) ?_)
  have dx:=da (base+i) (by lia)
  cases left with
  |true=>exact vn C hk dx dk hq
  |false=>exact wpS_bind (vn C hk dk dx (wpS_pure hq))
 refine wpS_bind (bey hh ?_)
 have up:∀i j,i≤j→j < n→fg O key left k arr base j=true→fg O key left k arr base i=true:=fun i j hij hj e=>by
  by_cases z:i=j
  ·rw[z];exact e
  ·exact mono i j (by exact Nat.lt_of_le_of_ne ‹_› ‹_›) hj e
 have dn:∀i j,i≤j→j < n→fg O key left k arr base i=false→fg O key left k arr base j=false:=fun i j hij hj e=>by
  cases z:fg O key left k arr base j with
  |false=>rfl
  |true=>rw[up i j hij hj z]at e;cases e
 have fin:∀{body:Nat→Option (Option Nat)×Nat×Nat→StateT SortSt Sem (ForInStep (Option (Option Nat)×Nat×Nat))} {cont:Option (Option Nat)×Nat×Nat→StateT SortSt Sem (Option Nat)},
   (∀lo,Q (some lo) st→wpS (model prog w) A E s (cont (none,lo,lo)) Q st)→
   (∀x lo hi (R:ForInStep (Option (Option Nat)×Nat×Nat)→SortSt→Prop),lo≥hi→R (.done (none,lo,hi)) st→wpS (model prog w) A E s (body x (none,lo,hi)) R st)→
   (∀x lo hi (R:ForInStep (Option (Option Nat)×Nat×Nat)→SortSt→Prop),lo < hi→hi≤n→R (.yield (if fg O key left k arr base (lo+(hi - lo) / 2)=true then (none,lo+(hi - lo) / 2+1,hi)else (none,lo,lo+(hi - lo) / 2))) st→wpS (model prog w) A E s (body x (none,lo,hi)) R st)→
   ∀lo hi,lo≤hi→hi≤n→(∀i,i < lo→fg O key left k arr base i=true)→(∀i,hi≤i→i < n→fg O key left k arr base i=false)→
   wpS (model prog w) A E s (forIn [0:n] (none,lo,hi) body >>= cont) Q st:=by
  intro body cont b3 b1 b2 lo hi f1 f2 f3 f4
  refine wpS_bind (wpS_mono (wpS_forRange (I:=fun x c st'=>st'=st∧∃lo hi,c=(none,lo,hi)∧lo≤hi∧hi≤n∧hi+x≤n+lo∧(∀i,i < lo→fg O key left k arr base i=true)∧(∀i,hi≤i→i < n→fg O key left k arr base i=false))
   (Q:=fun c st'=>st'=st∧∃lo,c=(none,lo,lo)∧lo≤n∧(∀i,i < lo→fg O key left k arr base i=true)∧(∀i,lo≤i→i < n→fg O key left k arr base i=false)) ?s1 ?s2 ⟨rfl,lo,hi,rfl,f1,f2,by exact Nat.le_add_right_of_le ‹_›,f3,f4⟩) ?s3)
  case s2=>
   rintro c st' ⟨rfl,l,o,rfl,h1,h2,h3,h4,h5⟩
   have:l=o:=by lia
   subst this
   exact⟨rfl,l,rfl,h2,h4,h5⟩
  case s3=>
   rintro c st' ⟨rfl,l,rfl,h2,h4,h5⟩
   exact b3 l (h l h2 h4 h5)
  case s1=>
   rintro x c st' - hx ⟨rfl,l,o,rfl,h1,h2,h3,h4,h5⟩
   by_cases z:l≥o
   ·have:l=o:=by exact Nat.le_antisymm ‹_› ‹_›
    subst this
    exact b1 x l l _ z ⟨rfl,l,rfl,h2,h4,h5⟩
   ·refine b2 x l o _ (by exact Nat.lt_of_not_le ‹_›) h2 ?_
    cases e:fg O key left k arr base (l+(o - l) / 2)with
    |true=>exact⟨rfl,_,_,rfl,by lia,by assumption,by lia,fun i hi=>up i _ (by exact Nat.le_of_lt_succ ‹_›) (by lia) e,h5⟩
    |false=>exact⟨rfl,_,_,rfl,by exact lB _ _,by lia,by lia,h4,fun i hi hn=>dn _ i hi hn e⟩
 cases eh:fg O key left k arr base hint with
 |true=>
  dsimp only
  rw[if_pos rfl]
  refine wpS_bind (wpS_mono (wpS_forRange (I:=fun x c st'=>st'=st∧∃l o,c=(none,l,o)∧l < o∧x < o∧hint+l < n∧fg O key left k arr base (hint+l)=true)
   (Q:=fun c st'=>st'=st∧∃l o,c=(none,l,o)∧l < o∧hint+l < n∧fg O key left k arr base (hint+l)=true∧(n - hint≤o∨fg O key left k arr base (hint+o)=false)) ?s1 ?s2 ⟨rfl,0,1,rfl,by exact Nat.lt_succ_self _,by exact Nat.lt_succ_self _,by assumption,eh⟩) ?s3)
  case s2=>
   rintro c st' ⟨rfl,l,o,rfl,h1,h2,h3,h4⟩
   exact⟨rfl,l,o,rfl,h1,h3,h4,.inl (by lia)⟩
  case s1=>
   rintro x c st' - hx ⟨rfl,l,o,rfl,h1,h2,h3,h4⟩
   dsimp only
   by_cases z:o≥n - hint
   ·rw[if_pos z]
    exact wpS_pure ⟨rfl,l,o,rfl,h1,h3,h4,.inl z⟩
   ·rw[if_neg z]
    refine wpS_bind (bey (by lia) ?_)
    cases e:fg O key left k arr base (hint+o)with
    |true=>exact wpS_pure ⟨rfl,o,2*o+1,rfl,by lia,by lia,by lia,e⟩
    |false=>exact wpS_pure ⟨rfl,l,o,rfl,h1,h3,h4,.inr e⟩
  case s3=>
   rintro c st' ⟨rfl,l,o,rfl,h1,h3,h4,h5⟩
   dsimp only
   have f1:hint+l+1≤hint+min o (n - hint):=by lia
   have f2:hint+min o (n - hint)≤n:=by lia
   have f3:∀i,i < hint+l+1→fg O key left k arr base i=true:=fun i hi=>up i _ (by exact Nat.le_of_lt_succ ‹_›) h3 h4
   have f4:∀i,hint+min o (n - hint)≤i→i < n→fg O key left k arr base i=false:=fun i hi hn=>by
    rcases h5 with h5 |h5
    ·lia
    ·exact dn (hint+o) i (by lia) hn h5
   revert f1 f2 f3 f4
   generalize hint+l+1=lo
   generalize hint+min o (n - hint)=hi
   refine fin (fun lo hq=>wpS_pure hq) (fun x lo hi R hz hR=>?_) (fun x lo hi R hz hn hR=>?_) lo hi
   ·dsimp only
    rw[if_pos hz]
    exact wpS_pure hR
   ·dsimp only
    rw[if_neg (by exact Nat.not_le.mpr ‹_›)]
    refine wpS_bind (bey (by lia) ?_)
    cases e:fg O key left k arr base (lo+(hi - lo) / 2)with
    |true=>rw[e]at hR;exact wpS_pure hR
    |false=>rw[e]at hR;exact wpS_pure hR
 |false=>
  dsimp only
  rw[if_neg (by simp)]
  refine wpS_bind (wpS_mono (wpS_forRange (I:=fun x c st'=>st'=st∧∃l o,c=(none,l,o)∧l < o∧x < o∧l≤hint∧fg O key left k arr base (hint - l)=false)
   (Q:=fun c st'=>st'=st∧∃l o,c=(none,l,o)∧l < o∧l≤hint∧fg O key left k arr base (hint - l)=false∧(hint+1≤o∨fg O key left k arr base (hint - o)=true)) ?s1 ?s2 ⟨rfl,0,1,rfl,by exact Nat.lt_succ_self _,by exact Nat.lt_succ_self _,by exact Nat.zero_le _,eh⟩) ?s3)
  case s2=>
   rintro c st' ⟨rfl,l,o,rfl,h1,h2,h3,h4⟩
   exact⟨rfl,l,o,rfl,h1,h3,h4,.inl (by lia)⟩
  case s1=>
   rintro x c st' - hx ⟨rfl,l,o,rfl,h1,h2,h3,h4⟩
   dsimp only
   by_cases z:o≥hint+1
   ·rw[if_pos z]
    exact wpS_pure ⟨rfl,l,o,rfl,h1,h3,h4,.inl z⟩
   ·rw[if_neg z]
    refine wpS_bind (bey (by exact sm (Nat.sub_le _ _) ‹_›) ?_)
    cases e:fg O key left k arr base (hint - o)with
    |false=>exact wpS_pure ⟨rfl,o,2*o+1,rfl,by lia,by lia,by exact Nat.le_of_not_lt ‹_›,e⟩
    |true=>exact wpS_pure ⟨rfl,l,o,rfl,h1,h3,h4,.inr e⟩
  case s3=>
   rintro c st' ⟨rfl,l,o,rfl,h1,h3,h4,h5⟩
   dsimp only
   have f1:hint+1 - min o (hint+1)≤hint - l:=by omega
   have f2:hint - l≤n:=by lia
   have f3:∀i,i < hint+1 - min o (hint+1)→fg O key left k arr base i=true:=fun i hi=>by
    rcases h5 with h5 |h5
    ·lia
    ·exact up i (hint - o) (by lia) (by exact sm (Nat.sub_le _ _) ‹_›) h5
   have f4:∀i,hint - l≤i→i < n→fg O key left k arr base i=false:=fun i hi hn=>dn _ i hi hn h4
   revert f1 f2 f3 f4
   generalize hint+1 - min o (hint+1)=lo
   generalize hint - l=hi
   refine fin (fun lo hq=>wpS_pure hq) (fun x lo hi R hz hR=>?_) (fun x lo hi R hz hn hR=>?_) lo hi
   ·dsimp only
    rw[if_pos hz]
    exact wpS_pure hR
   ·dsimp only
    rw[if_neg (by exact Nat.not_le.mpr ‹_›)]
    refine wpS_bind (bey (by lia) ?_)
    cases e:fg O key left k arr base (lo+(hi - lo) / 2)with
    |true=>rw[e]at hR;exact wpS_pure hR
    |false=>rw[e]at hR;exact wpS_pure hR
end
end NhLS
namespace NhLS
set_option autoImplicit false
open PySem PyProof.Rows
def Le(O:KeyOrd)(key:Keyed→O.α)(x y:Keyed):Prop:=O.blt (key y) (key x)=false
structure G (le:Keyed→Keyed→Prop) (T out ra rb:List Keyed):Prop where
 perm:(out++(ra++rb)).Perm T
 pa:(out++ra).Pairwise le
 pb:(out++rb).Pairwise le
def fz(le:Keyed→Keyed→Prop)(T l:List Keyed):Prop:=l.Perm T∧l.Pairwise le
section
variable {le:Keyed→Keyed→Prop} {T out ra rb p:List Keyed}
theorem G.takeA(g:G le T out (p++ra) rb)(h:∀x∈p,∀y∈rb,le x y):G le T (out++p) ra rb where
 perm:=by have:=g.perm;simpa[lA]using this
 pa:=by have:=g.pa;simpa[lA]using this
 pb:=by
  have h1:=g.pa
  have h2:=g.pb
  simp only[List.pairwise_append,Zao]at h1 h2 ⊢
  refine⟨⟨h1.1,h1.2.1.1,fun x hx y hy=>h1.2.2 x hx y (.inl hy)⟩,h2.2.1,fun x hx y hy=>?_⟩
  rcases hx with hx |hx
  ·exact h2.2.2 x hx y hy
  ·exact h x hx y hy
theorem G.takeB(g:G le T out ra (p++rb))(h:∀x∈p,∀y∈ra,le x y):G le T (out++p) ra rb where
 perm:=by
  refine List.Perm.trans ?_ g.perm
  rw[lA]
  refine List.Perm.append_left _ ?_
  rw[←lA,←lA]
  exact List.Perm.append_right _ List.perm_append_comm
 pb:=by have:=g.pb;simpa[lA]using this
 pa:=by
  have h1:=g.pa
  have h2:=g.pb
  simp only[List.pairwise_append,Zao]at h1 h2 ⊢
  refine⟨⟨h2.1,h2.2.1.1,fun x hx y hy=>h2.2.2 x hx y (.inl hy)⟩,h1.2.1,fun x hx y hy=>?_⟩
  rcases hx with hx |hx
  ·exact h1.2.2 x hx y hy
  ·exact h x hx y hy
theorem G.endA(g:G le T out ra []):fz le T (out++ra):=⟨by have:=g.perm;simpa using this,g.pa⟩
theorem G.endB(g:G le T out [] rb):fz le T (out++rb):=⟨by have:=g.perm;simpa using this,g.pb⟩
end
section
variable {O:KeyOrd} {key:Keyed→O.α} {a b:Array Keyed} {T:List Keyed} {out:Array Keyed} {i j ia ib k:Nat} {x y z:Keyed}
theorem Le.refl(x:Keyed):Le O key x x:=O.irrefl _
theorem Le.trans(h1:Le O key x y)(h2:Le O key y z):Le O key x z:=KeyOrd.kle_trans (O:=O) (a:=key x) (b:=key y) (c:=key z) h1 h2
theorem Le.of(h:O.blt (key x) (key y)=true):Le O key x y:=KeyOrd.klt_asymm (O:=O) h
theorem fL(h:i < a.toList.length):a.toList[i]=at' a i:=by
 have h':i < a.size:=by simpa using h
 simp[at',Array.getD,h']
theorem nE(h:y∈a.toList.drop i):∃j,i≤j∧j < a.size∧y=at' a j:=by
 obtain⟨j,hj,e⟩:=List.mem_iff_getElem.mp h
 rw[List.length_drop,pT]at hj
 refine⟨i+j,by exact lB _ _,by exact Nat.add_lt_of_lt_sub' ‹_›,?_⟩
 rw[List.getElem_drop]at e
 rw[←e,fL]
theorem ip(h:i < a.size):at' a i∈a.toList:=by
 rw[←fL (by simpa using h)]
 exact List.getElem_mem _
theorem mv(pa:a.toList.Pairwise (Le O key))(h:i≤j)(hj:j < a.size):Le O key (at' a i) (at' a j):=by
 by_cases e:i=j
 ·rw[e];exact Le.refl _
 ·have:=List.pairwise_iff_getElem.mp pa i j (by simp;exact sm ‹_› ‹_›) (by simpa using hj) (by exact Nat.lt_of_le_of_ne ‹_› ‹_›)
  rw[fL,fL]at this
  exact this
theorem o6(pa:a.toList.Pairwise (Le O key))(h:y∈a.toList.drop i):Le O key (at' a i) y:=by
 obtain⟨j,h1,h2,rfl⟩:=nE h
 exact mv pa h1 h2
theorem rJ(h:i < a.size):a.toList.drop i=[at' a i]++a.toList.drop (i+1):=by
 rw[List.drop_eq_getElem_cons (by simpa using h),fL]
 rfl
theorem rK(k:Nat):a.toList.drop i=(a.extract i (i+k)).toList++a.toList.drop (i+k):=by
 rw[Array.toList_extract,List.extract_eq_take_drop,ug,←List.drop_drop,List.take_append_drop]
theorem jr:(a.extract i).toList=a.toList.drop i:=by
 rw[Array.toList_extract,List.extract_eq_take_drop]
 exact List.take_of_length_le (by simp)
theorem nG(h:a.size≤i):a.toList.drop i=[]:=List.drop_eq_nil_of_le (by simpa using h)
theorem vo(h:x∈(a.extract i (i+k)).toList):∃j,j < k∧i+j < a.size∧x=at' a (i+j):=by
 rw[Array.toList_extract,List.extract_eq_take_drop,ug]at h
 obtain⟨j,hj,e⟩:=List.mem_iff_getElem.mp h
 rw[List.length_take,List.length_drop,pT]at hj
 refine⟨j,by lia,by lia,?_⟩
 rw[List.getElem_take,List.getElem_drop]at e
 rw[←e,fL]
theorem G.pushA(g:G (Le O key) T out.toList (a.toList.drop ia) (b.toList.drop ib))(h:ia < a.size)(hl:∀y∈b.toList.drop ib,Le O key (at' a ia) y):G (Le O key) T (out.push (at' a ia)).toList (a.toList.drop (ia+1)) (b.toList.drop ib):=by
 rw[rJ h]at g
 rw[Array.toList_push]
 exact g.takeA fun x hx y hy=>by rw[Zaf.mp hx];exact hl y hy
theorem G.pushB(g:G (Le O key) T out.toList (a.toList.drop ia) (b.toList.drop ib))(h:ib < b.size)(hl:∀y∈a.toList.drop ia,Le O key (at' b ib) y):G (Le O key) T (out.push (at' b ib)).toList (a.toList.drop ia) (b.toList.drop (ib+1)):=by
 rw[rJ h]at g
 rw[Array.toList_push]
 exact g.takeB fun x hx y hy=>by rw[Zaf.mp hx];exact hl y hy
theorem G.blkA(g:G (Le O key) T out.toList (a.toList.drop ia) (b.toList.drop ib))(k:Nat)(hl:∀j,j < k→ia+j < a.size→∀y∈b.toList.drop ib,Le O key (at' a (ia+j)) y):G (Le O key) T (out++a.extract ia (ia+k)).toList (a.toList.drop (ia+k)) (b.toList.drop ib):=by
 rw[rK k]at g
 rw[n3]
 exact g.takeA fun x hx y hy=>by obtain⟨j,h1,h2,rfl⟩:=vo hx;exact hl j h1 h2 y hy
theorem G.blkB(g:G (Le O key) T out.toList (a.toList.drop ia) (b.toList.drop ib))(k:Nat)(hl:∀j,j < k→ib+j < b.size→∀y∈a.toList.drop ia,Le O key (at' b (ib+j)) y):G (Le O key) T (out++b.extract ib (ib+k)).toList (a.toList.drop ia) (b.toList.drop (ib+k)):=by
 rw[rK (a:=b) k]at g
 rw[n3]
 exact g.takeB fun x hx y hy=>by obtain⟨j,h1,h2,rfl⟩:=vo hx;exact hl j h1 h2 y hy
theorem G.doneB(g:G (Le O key) T out.toList (a.toList.drop ia) (b.toList.drop ib))(h:b.size≤ib):fz (Le O key) T (out++a.extract ia++b.extract ib).toList:=by
 rw[n3,n3,jr,jr,nG h,List.append_nil]
 rw[nG h]at g
 exact g.endA
theorem G.doneA(g:G (Le O key) T out.toList (a.toList.drop ia) (b.toList.drop ib))(h:a.size≤ia):fz (Le O key) T (out++a.extract ia++b.extract ib).toList:=by
 rw[n3,n3,jr,jr,nG h,List.append_nil]
 rw[nG h]at g
 exact g.endB
theorem G.lastA(g:G (Le O key) T out.toList (a.toList.drop ia) (b.toList.drop ib))(h:ia+1=a.size)(h1:∀y∈b.toList,Le O key y (at' a (a.size - 1))):fz (Le O key) T (out++b.extract ib++a.extract ia).toList:=by
 rw[n3,n3,jr,jr]
 have g':G (Le O key) T out.toList (a.toList.drop ia) (b.toList.drop ib++[]):=by rw[List.append_nil];exact g
 refine(g'.takeB fun x hx y hy=>?_).endA
 obtain⟨j,q1,q2,rfl⟩:=nE hy
 rw[show j=a.size - 1 by lia]
 exact h1 x (List.mem_of_mem_drop hx)
end
def SS(st st':SortSt):Prop:=∃g,st'=SortSt.mk' (kindOf st) (arrOf st) (pendingOf st) g (failedOf st)
theorem SS.refl(st:SortSt):SS st st:=⟨gallopOf st,rfl⟩
theorem SS.kind{st st':SortSt}(h:SS st st'):kindOf st'=kindOf st:=by obtain⟨g,rfl⟩:=h;rfl
section
variable {prog:Program} {w:World} {A:Around} {E:Value→Shared→Prop} {s:Shared} {κ:SortKind} {O:KeyOrd} {key:Keyed→O.α} {dom:Keyed→Prop} {st:SortSt}
def BH:Nat→StateT SortSt Sem Unit:=sortPriv% PySem.Builtin.setMinGallop
theorem nH{st':SortSt}{g:Nat}{Q:Unit→SortSt→Prop}(hs:SS st st')(h:∀st2,SS st st2→Q () st2):wpS (model prog w) A E s (BH g) Q st':=
 wpS_modify (h _ (by obtain⟨g',rfl⟩:=hs;exact⟨g,rfl⟩))
theorem aN{α:Type}{c:Prop}[Decidable c]{x y:StateT SortSt Sem α}{Q:α→SortSt→Prop}(hc:c)(h:wpS (model prog w) A E s x Q st):wpS (model prog w) A E s (if c then x else y) Q st:=by rw[if_pos hc];exact h
theorem aI{α:Type}{c:Prop}[Decidable c]{x y:StateT SortSt Sem α}{Q:α→SortSt→Prop}(hc:¬c)(h:wpS (model prog w) A E s y Q st):wpS (model prog w) A E s (if c then x else y) Q st:=by rw[if_neg hc];exact h
theorem zX{α:Type}{m:StateT SortSt Sem α}{Q:α→SortSt→Prop}(h:∀R,R=Q→wpS (model prog w) A E s m R st):wpS (model prog w) A E s m Q st:=h Q rfl
theorem BI{α:Type}{c:Prop}[Decidable c](f:Nat→StateT SortSt Sem α){x y:Nat}{Q:α→SortSt→Prop}(h:∀m,wpS (model prog w) A E s (f m) Q st):wpS (model prog w) A E s (if c then f x else f y) Q st:=by
 split <;> exact h _
theorem tH(C:Cmp prog w A s κ O key dom){a b:Array Keyed}{Q:Array Keyed→SortSt→Prop}(hk:kindOf st=κ)(da:∀x∈a.toList,dom x)(db:∀x∈b.toList,dom x)(ha:0 < a.size)(hb:0 < b.size)
  (pa:a.toList.Pairwise (Le O key)) (pb:b.toList.Pairwise (Le O key)) (h0:O.blt (key (at' b 0)) (key (at' a 0))=true) (h1:∀y∈b.toList,Le O key y (at' a (a.size - 1)))
  (h:∀r st',SS st st'→fz (Le O key) (a.toList++b.toList) r.toList→Q r st'):wpS (model prog w) A E s (vk a b) Q st:=by
 refine wpS_bind (wpS_lift (wpAny_rule ⟨rfl,?_⟩))
 refine wpS_bind (e8 hb ?_)
 obtain⟨T,hT⟩:∃T,T=a.toList++b.toList:=⟨_,rfl⟩
 rw[←hT]at h
 have g0:G (Le O key) T (#[at' b 0]:Array Keyed).toList (a.toList.drop 0) (b.toList.drop 1):=by
  have q:G (Le O key) T (#[]:Array Keyed).toList (a.toList.drop 0) (b.toList.drop 0):=⟨by simp[hT],by simpa using pa,by simpa using pb⟩
  exact q.pushB hb fun y hy=>(Le.of h0).trans (o6 pa hy)
 have dA:∀i,i < a.size→dom (at' a i):=fun i hi=>da _ (ip hi)
 have dB:∀i,i < b.size→dom (at' b i):=fun i hi=>db _ (ip hi)
 extract_lets o0 i0 i1
 by_cases e1:(1 == b.size)=true
 ·refine aN e1 ?_
  exact wpS_pure (h _ st (SS.refl _) (g0.doneB (by simp at e1;exact Nat.le_of_eq (Eq.symm ‹_›))))
 refine aI e1 ?_
 by_cases e2:(0+1 == a.size)=true
 ·refine aN e2 ?_
  exact wpS_pure (h _ st (SS.refl _) (g0.lastA (by simpa using e2) h1))
 refine aI e2 ?_
 refine wpS_bind (wpS_get ?_)
 refine wpS_bind (wpS_mono (wpS_forRange (I:=fun x c st'=>SS st st'∧∃out ia ib mg,c=(none,out,ia,ib,mg)∧ia+1 < a.size∧ib < b.size∧x < ia+ib∧G (Le O key) T out.toList (a.toList.drop ia) (b.toList.drop ib))
  (Q:=fun c st'=>SS st st'∧∃r o,c=(some r,o)∧fz (Le O key) T r.toList) ?s1 ?s2 ⟨SS.refl _,_,0,1,_,rfl,by simp at e2;exact Nat.lt_of_le_of_ne ‹_› ‹_›,by simp at e1;exact Nat.lt_of_le_of_ne ‹_› ‹_›,by exact Nat.lt_succ_self _,g0⟩) ?s3)
 case s3=>
  rintro c st' ⟨hs,r,o,rfl,hg⟩
  exact wpS_pure (h r st' hs hg)
 case s2=>
  rintro c st' ⟨hs,out,ia,ib,mg,rfl,q1,q2,q3,g⟩
  lia
 case s1=>
  rintro x c st1 - hx ⟨hs,out,ia,ib,mg,rfl,q1,q2,q3,g⟩
  refine wpS_bind (wpS_mono (wpS_forRange (I:=fun y c st'=>SS st st'∧∃out ia ib ac bc,c=(none,out,ia,ib,ac,bc)∧ia+1 < a.size∧ib < b.size∧x < ia+ib∧(y=0∨x+1 < ia+ib)∧G (Le O key) T out.toList (a.toList.drop ia) (b.toList.drop ib))
   (Q:=fun c st'=>SS st st'∧((∃r o,c=(some r,o)∧fz (Le O key) T r.toList)∨∃out ia ib ac bc,c=(none,out,ia,ib,ac,bc)∧ia+1 < a.size∧ib < b.size∧x+1 < ia+ib∧G (Le O key) T out.toList (a.toList.drop ia) (b.toList.drop ib))) ?t1 ?t2 ⟨hs,out,ia,ib,0,0,rfl,q1,q2,q3,.inl rfl,g⟩) ?t3)
  case t2=>
   rintro c st' ⟨hs,out,ia,ib,ac,bc,rfl,q1,q2,q3,q4,g⟩
   exact⟨hs,.inr ⟨out,ia,ib,ac,bc,rfl,q1,q2,by lia,g⟩⟩
  case t1=>
   rintro y c st2 - hy ⟨hs,out,ia,ib,ac,bc,rfl,q1,q2,q3,q4,g⟩
   have q0:ia < a.size:=by exact Nat.lt_of_succ_lt ‹_›
   refine wpS_bind (e8 q2 ?_)
   refine wpS_bind (e8 q0 ?_)
   refine wpS_bind (vn C (hs.kind.trans hk) (dB _ q2) (dA _ q0) ?_)
   cases e:O.blt (key (at' b ib)) (key (at' a ia))with
   |true=>
    refine wpS_bind (e8 q2 ?_)
    have g':=g.pushB q2 (fun y hy=>(Le.of e).trans (o6 pa hy))
    by_cases z:(ib+1 == b.size)=true
    ·exact aN z (wpS_pure ⟨hs,.inl ⟨_,_,rfl,g'.doneB (by simp at z;exact Nat.le_of_eq (Eq.symm ‹_›))⟩⟩)
    ·refine aI z ?_
     have z':ib+1 < b.size:=by simp at z;exact Nat.lt_of_le_of_ne ‹_› ‹_›
     dsimp only
     split
     ·exact wpS_pure ⟨hs,.inr ⟨_,_,_,_,_,rfl,q1,z',by exact Nat.succ_lt_succ ‹_›,g'⟩⟩
     ·exact wpS_pure ⟨hs,_,_,_,_,_,rfl,q1,z',by exact n_ ‹_›,.inr (by exact Nat.succ_lt_succ ‹_›),g'⟩
   |false=>
    refine wpS_bind (e8 q0 ?_)
    have g':=g.pushA (by assumption) (fun y hy=>Le.trans e (o6 pb hy))
    by_cases z:(ia+1+1 == a.size)=true
    ·exact aN z (wpS_pure ⟨hs,.inl ⟨_,_,rfl,g'.lastA (by simpa using z) h1⟩⟩)
    ·refine aI z ?_
     have z':ia+1+1 < a.size:=by simp at z;exact Nat.lt_of_le_of_ne ‹_› ‹_›
     dsimp only
     split
     ·exact wpS_pure ⟨hs,.inr ⟨_,_,_,_,_,rfl,z',q2,by lia,g'⟩⟩
     ·exact wpS_pure ⟨hs,_,_,_,_,_,rfl,z',q2,by lia,.inr (by lia),g'⟩
  case t3=>
   rintro c st2 ⟨hs,⟨r,o,rfl,hg⟩ |⟨out,ia,ib,ac,bc,rfl,q1,q2,q3,g⟩⟩
   ·exact wpS_pure ⟨hs,r,_,rfl,hg⟩
   ·refine wpS_bind (wpS_lift (wpAny_rule ⟨rfl,?_⟩))
    refine wpS_bind (wpS_mono (wpS_forRange (I:=fun y c st'=>SS st st'∧∃out ia ib mg ac bc,c=(none,out,ia,ib,mg,ac,bc)∧ia+1 < a.size∧ib < b.size∧x+1 < ia+ib∧G (Le O key) T out.toList (a.toList.drop ia) (b.toList.drop ib))
     (Q:=fun c st'=>SS st st'∧((∃r o,c=(some r,o)∧fz (Le O key) T r.toList)∨∃out ia ib mg ac bc,c=(none,out,ia,ib,mg,ac,bc)∧ia+1 < a.size∧ib < b.size∧x+1 < ia+ib∧G (Le O key) T out.toList (a.toList.drop ia) (b.toList.drop ib))) ?u1 ?u2 ⟨hs,out,ia,ib,_,ac,bc,rfl,q1,q2,q3,g⟩) ?u3)
    case u2=>
     rintro c st' ⟨hs,out,ia,ib,mg,ac,bc,rfl,q1,q2,q3,g⟩
     exact⟨hs,.inr ⟨out,ia,ib,mg,ac,bc,rfl,q1,q2,by assumption,g⟩⟩
    case u3=>
     rintro c st3 ⟨hs,⟨r,o,rfl,hg⟩ |⟨out,ia,ib,mg,ac,bc,rfl,q1,q2,q3,g⟩⟩
     ·exact wpS_pure ⟨hs,r,_,rfl,hg⟩
     ·exact wpS_bind (nH hs fun st4 h4=>wpS_pure ⟨h4,out,ia,ib,_,rfl,q1,q2,q3,g⟩)
    case u1=>
     rintro y c st3 - hy ⟨hs,out,ia,ib,mg,ac,bc,rfl,q1,q2,q3,g⟩
     refine zX fun R hR=>?_
     have Rd:∀r o st',SS st st'→fz (Le O key) T r.toList→R (.done (some r,o)) st':=fun r o st' a1 a2=>by rw[hR];exact⟨a1,.inl ⟨r,o,rfl,a2⟩⟩
     have Rn:∀out ia ib mg ac bc st',SS st st'→ia+1 < a.size→ib < b.size→x+1 < ia+ib→G (Le O key) T out.toList (a.toList.drop ia) (b.toList.drop ib)→R (.done (none,out,ia,ib,mg,ac,bc)) st':=
      fun out ia ib mg ac bc st' a1 a2 a3 a4 a5=>by rw[hR];exact⟨a1,.inr ⟨_,_,_,_,_,_,rfl,a2,a3,a4,a5⟩⟩
     have Ry:∀out ia ib mg ac bc st',SS st st'→ia+1 < a.size→ib < b.size→x+1 < ia+ib→G (Le O key) T out.toList (a.toList.drop ia) (b.toList.drop ib)→R (.yield (none,out,ia,ib,mg,ac,bc)) st':=
      fun out ia ib mg ac bc st' a1 a2 a3 a4 a5=>by rw[hR];exact⟨a1,_,_,_,_,_,_,rfl,a2,a3,a4,a5⟩
     clear hR
     extract_lets
     rename Unit→Nat→_=>jp
     refine BI (jp ()) fun mg'=>?_
     refine wpS_bind (nH hs fun st4 h4=>?_)
     refine wpS_bind (e8 q2 ?_)
     refine wpS_bind (fK C (base:=ia) (n:=a.size - ia) (hint:=0) (h4.kind.trans hk) (by exact Nat.sub_pos_of_lt (Nat.lt_of_succ_lt ‹_›)) (by exact Nat.le_of_eq (Nat.add_sub_of_le (g7 (Nat.lt_of_succ_lt ‹_›)))) (dB _ q2) dA ?m1 fun k hk1 hk2 hk3=>?_)
     case m1=>
      intro i j hij hj e
      simp only[fg,Bool.not_eq_true',ca]at e ⊢
      exact(mv pa (by lia) (by exact Nat.add_lt_of_lt_sub' ‹_›):Le O key (at' a (ia+i)) (at' a (ia+j))).trans e
     simp only[fg,Bool.not_eq_true',Bool.not_eq_false',ca]at hk2 hk3
     dsimp -zeta only
     extract_lets
     rename Unit→Array Keyed→Nat→_=>jp1
     have J1:∀(out:Array Keyed) (ia:Nat),ia+1 < a.size→x+1 < ia+ib→G (Le O key) T out.toList (a.toList.drop ia) (b.toList.drop ib)→(∀y∈a.toList.drop ia,Le O key (at' b ib) y)→wpS (model prog w) A E s (jp1 () out ia) R st4:=by
      intro out ia q1 q3 g hl
      have q0:ia < a.size:=by exact Nat.lt_of_succ_lt ‹_›
      refine wpS_bind (e8 q2 ?_)
      have g':=g.pushB q2 hl
      by_cases z:(ib+1 == b.size)=true
      ·exact aN z (wpS_pure (Rd _ _ _ h4 (g'.doneB (by simp at z;exact Nat.le_of_eq (Eq.symm ‹_›)))))
      refine aI z ?_
      have z':ib+1 < b.size:=by simp at z;exact Nat.lt_of_le_of_ne ‹_› ‹_›
      refine wpS_bind (e8 q0 ?_)
      refine wpS_bind (fK C (base:=ib+1) (n:=b.size - (ib+1)) (hint:=0) (h4.kind.trans hk) (by exact Nat.sub_pos_of_lt ‹_›) (by exact Nat.le_of_eq (Nat.add_sub_of_le ‹_›)) (dA _ q0) dB ?m2 fun k' hk1' hk2' hk3'=>?_)
      case m2=>
       intro i j hij hj e
       simp only[fg,if_true]at e ⊢
       exact KeyOrd.klt_of_kle_of_klt (O:=O) (mv pb (by lia) (by exact Nat.add_lt_of_lt_sub' ‹_›):Le O key (at' b (ib+1+i)) (at' b (ib+1+j))) e
      simp only[fg,if_true]at hk2' hk3'
      dsimp -zeta only
      extract_lets
      rename Unit→Array Keyed→Nat→_=>jp2
      have J2:∀(out:Array Keyed) (ib':Nat),ib' < b.size→x+1 < ia+ib'→G (Le O key) T out.toList (a.toList.drop ia) (b.toList.drop ib')→(∀y∈b.toList.drop ib',Le O key (at' a ia) y)→wpS (model prog w) A E s (jp2 () out ib') R st4:=by
       intro out ib' p2 p3 g hl
       refine wpS_bind (e8 q0 ?_)
       have g':=g.pushA q0 hl
       by_cases z:(ia+1+1 == a.size)=true
       ·exact aN z (wpS_pure (Rd _ _ _ h4 (g'.lastA (by simpa using z) h1)))
       refine aI z ?_
       have z':ia+1+1 < a.size:=by simp at z;exact Nat.lt_of_le_of_ne ‹_› ‹_›
       by_cases z2:(decide (k < 7)&&decide (k' < 7))=true
       ·exact aN z2 (wpS_pure (Rn _ _ _ _ _ _ _ h4 z' p2 (by lia) g'))
       ·exact aI z2 (wpS_pure (Ry _ _ _ _ _ _ _ h4 z' p2 (by lia) g'))
      clear_value jp2
      have tl:∀y∈b.toList.drop (ib+1+k'),Le O key (at' a ia) y:=fun y hy=>by
       obtain⟨j,r1,r2,rfl⟩:=nE hy
       have:=hk3' (j - (ib+1)) (by exact Nat.le_sub_of_add_le' ‹_›) (by exact Nat.sub_lt_sub_right (gG (lB _ _) ‹_›) ‹_›)
       rwa [show ib+1+(j - (ib+1))=j by exact Nat.add_sub_of_le (gG (lB _ _) ‹_›)]at this
      by_cases z2:k' > 0
      ·refine aN z2 ?_
       have g2:=g'.blkB k' fun j j1 j2 y hy=>(Le.of (hk2' j j1)).trans (o6 pa hy)
       by_cases z3:(ib+1+k' == b.size)=true
       ·exact aN z3 (wpS_pure (Rd _ _ _ h4 (g2.doneB (by simp at z3;exact Nat.le_of_eq (Eq.symm ‹_›)))))
       ·exact aI z3 (J2 _ (ib+1+k') (by simp at z3;lia) (by lia) g2 tl)
      ·have k0:k'=0:=by exact Nat.eq_zero_of_not_pos ‹_›
       subst k0
       exact aI z2 (J2 _ (ib+1) z' (by exact n_ ‹_›) g' tl)
     clear_value jp1
     have tl:∀y∈a.toList.drop (ia+k),Le O key (at' b ib) y:=fun y hy=>by
      obtain⟨j,r1,r2,rfl⟩:=nE hy
      have:=hk3 (j - ia) (by exact Nat.le_sub_of_add_le' ‹_›) (by exact Nat.sub_lt_sub_right (gG (lB _ _) ‹_›) ‹_›)
      rw[show ia+(j - ia)=j by exact Nat.add_sub_of_le (gG (lB _ _) ‹_›)]at this
      exact Le.of this
     by_cases z2:k > 0
     ·refine aN z2 ?_
      have g2:=g.blkA k fun j j1 j2 y hy=>Le.trans (hk2 j j1) (o6 pb hy)
      by_cases z3:(ia+k+1 == a.size)=true
      ·exact aN z3 (wpS_pure (Rd _ _ _ h4 (g2.lastA (by simpa using z3) h1)))
      refine aI z3 ?_
      by_cases z4:(ia+k == a.size)=true
      ·exact aN z4 (wpS_pure (Rd _ _ _ h4 (g2.doneA (by simp at z4;exact Nat.le_of_eq (Eq.symm ‹_›)))))
      ·exact aI z4 (J1 _ (ia+k) (by simp at z3 z4;lia) (by lia) g2 tl)
     ·have k0:k=0:=by exact Nat.eq_zero_of_not_pos ‹_›
      subst k0
      exact aI z2 (J1 _ ia q1 q3 g tl)
end
end NhLS
namespace NhLS
set_option autoImplicit false
open PySem PyProof.Rows
structure H (le:Keyed→Keyed→Prop) (T ra rb out:List Keyed):Prop where
 perm:(ra++rb++out).Perm T
 pa:(ra++out).Pairwise le
 pb:(rb++out).Pairwise le
section
variable {le:Keyed→Keyed→Prop} {T out ra rb p:List Keyed}
theorem H.takeA(g:H le T (ra++p) rb out)(h:∀x∈p,∀y∈rb,le y x):H le T ra rb (p++out) where
 perm:=by
  refine List.Perm.trans ?_ g.perm
  rw[←lA]
  refine List.Perm.append_right _ ?_
  rw[lA,lA]
  exact List.Perm.append_left _ List.perm_append_comm
 pa:=by have:=g.pa;simpa[lA]using this
 pb:=by
  have h1:=g.pa
  have h2:=g.pb
  simp only[List.pairwise_append,Zao]at h1 h2 ⊢
  refine⟨h2.1,⟨h1.1.2.1,h1.2.1,fun x hx y hy=>h1.2.2 x (.inr hx) y hy⟩,fun x hx y hy=>?_⟩
  rcases hy with hy |hy
  ·exact h y hy x hx
  ·exact h2.2.2 x hx y hy
theorem H.takeB(g:H le T ra (rb++p) out)(h:∀x∈p,∀y∈ra,le y x):H le T ra rb (p++out) where
 perm:=by have:=g.perm;simpa[lA]using this
 pb:=by have:=g.pb;simpa[lA]using this
 pa:=by
  have h1:=g.pa
  have h2:=g.pb
  simp only[List.pairwise_append,Zao]at h1 h2 ⊢
  refine⟨h1.1,⟨h2.1.2.1,h2.2.1,fun x hx y hy=>h2.2.2 x (.inr hx) y hy⟩,fun x hx y hy=>?_⟩
  rcases hy with hy |hy
  ·exact h y hy x hx
  ·exact h1.2.2 x hx y hy
theorem H.endA(g:H le T ra [] out):fz le T (ra++out):=⟨by have:=g.perm;simpa using this,g.pa⟩
theorem H.endB(g:H le T [] rb out):fz le T (rb++out):=⟨by have:=g.perm;simpa using this,g.pb⟩
end
section
variable {O:KeyOrd} {key:Keyed→O.α} {a b:Array Keyed} {T:List Keyed} {out:Array Keyed} {i j na nb k:Nat} {x y z:Keyed}
theorem nI(h:y∈a.toList.take i):∃j,j < i∧j < a.size∧y=at' a j:=by
 obtain⟨j,hj,e⟩:=List.mem_iff_getElem.mp h
 rw[List.length_take,pT]at hj
 refine⟨j,by lia,by lia,?_⟩
 rw[List.getElem_take]at e
 rw[←e,fL]
theorem rL(pa:a.toList.Pairwise (Le O key))(hi:i < a.size)(h:y∈a.toList.take (i+1)):Le O key y (at' a i):=by
 obtain⟨j,h1,h2,rfl⟩:=nI h
 exact mv pa (by exact Nat.le_of_lt_succ ‹_›) hi
theorem rM(h:i < a.size):a.toList.take (i+1)=a.toList.take i++[at' a i]:=by
 rw[List.take_succ_eq_append_getElem (by simpa using h),fL]
theorem nJ(h:i≤j):a.toList.take j=a.toList.take i++(a.extract i j).toList:=by
 rw[Array.toList_extract,List.extract_eq_take_drop,←List.take_add]
 congr 1
 lia
theorem jt:(a.extract 0 i).toList=a.toList.take i:=by
 rw[Array.toList_extract,List.extract_eq_take_drop]
 rfl
theorem nK(h:x∈(a.extract i j).toList):∃k,i≤k∧k < j∧k < a.size∧x=at' a k:=by
 rw[Array.toList_extract,List.extract_eq_take_drop]at h
 obtain⟨k,hk,e⟩:=List.mem_iff_getElem.mp h
 rw[List.length_take,List.length_drop,pT]at hk
 refine⟨i+k,by exact lB _ _,by lia,by lia,?_⟩
 rw[List.getElem_take,List.getElem_drop]at e
 rw[←e,fL]
theorem H.pushA(g:H (Le O key) T (a.toList.take (na+1)) (b.toList.take nb) out.toList.reverse)(h:na < a.size)(hl:∀y∈b.toList.take nb,Le O key y (at' a na)):H (Le O key) T (a.toList.take na) (b.toList.take nb) (out.push (at' a na)).toList.reverse:=by
 rw[rM h]at g
 rw[Array.toList_push,List.reverse_append]
 exact g.takeA fun x hx y hy=>by rw[Zaf.mp hx];exact hl y hy
theorem H.pushB(g:H (Le O key) T (a.toList.take na) (b.toList.take (nb+1)) out.toList.reverse)(h:nb < b.size)(hl:∀y∈a.toList.take na,Le O key y (at' b nb)):H (Le O key) T (a.toList.take na) (b.toList.take nb) (out.push (at' b nb)).toList.reverse:=by
 rw[rM h]at g
 rw[Array.toList_push,List.reverse_append]
 exact g.takeB fun x hx y hy=>by rw[Zaf.mp hx];exact hl y hy
theorem H.blkA(g:H (Le O key) T (a.toList.take na) (b.toList.take nb) out.toList.reverse)(h:i≤na)(hl:∀j,i≤j→j < na→j < a.size→∀y∈b.toList.take nb,Le O key y (at' a j)):H (Le O key) T (a.toList.take i) (b.toList.take nb) (out++(a.extract i na).reverse).toList.reverse:=by
 rw[nJ h]at g
 rw[n3,List.reverse_append,Array.toList_reverse,List.reverse_reverse]
 exact g.takeA fun x hx y hy=>by obtain⟨j,h1,h2,h3,rfl⟩:=nK hx;exact hl j h1 h2 h3 y hy
theorem H.blkB(g:H (Le O key) T (a.toList.take na) (b.toList.take nb) out.toList.reverse)(h:i≤nb)(hl:∀j,i≤j→j < nb→j < b.size→∀y∈a.toList.take na,Le O key y (at' b j)):H (Le O key) T (a.toList.take na) (b.toList.take i) (out++(b.extract i nb).reverse).toList.reverse:=by
 rw[nJ (a:=b) h]at g
 rw[n3,List.reverse_append,Array.toList_reverse,List.reverse_reverse]
 exact g.takeB fun x hx y hy=>by obtain⟨j,h1,h2,h3,rfl⟩:=nK hx;exact hl j h1 h2 h3 y hy
theorem H.doneA(g:H (Le O key) T (a.toList.take na) (b.toList.take nb) out.toList.reverse)(h:na=0):fz (Le O key) T (a.extract 0 na++b.extract 0 nb++out.reverse).toList:=by
 subst h
 rw[n3,n3,jt,jt,Array.toList_reverse]
 exact g.endB
theorem H.doneB(g:H (Le O key) T (a.toList.take na) (b.toList.take nb) out.toList.reverse)(h:nb=0):fz (Le O key) T (a.extract 0 na++b.extract 0 nb++out.reverse).toList:=by
 subst h
 rw[n3,n3,jt,jt,Array.toList_reverse,List.take_zero,List.append_nil]
 exact g.endA
theorem H.firstB(g:H (Le O key) T (a.toList.take na) (b.toList.take nb) out.toList.reverse)(h:nb=1)(h1:∀y∈a.toList,Le O key (at' b 0) y):fz (Le O key) T (b.extract 0 nb++a.extract 0 na++out.reverse).toList:=by
 rw[n3,n3,jt,jt,Array.toList_reverse,lA]
 have g':H (Le O key) T ([]++a.toList.take na) (b.toList.take nb) out.toList.reverse:=g
 refine(g'.takeA fun x hx y hy=>?_).endB
 obtain⟨j,q1,q2,rfl⟩:=nI hy
 rw[show j=0 by lia]
 exact h1 x (List.mem_of_mem_take hx)
end
section
variable {prog:Program} {w:World} {A:Around} {E:Value→Shared→Prop} {s:Shared} {κ:SortKind} {O:KeyOrd} {key:Keyed→O.α} {dom:Keyed→Prop} {st:SortSt}
theorem fA{α:Type}{c:Prop}[Decidable c]{x y:StateT SortSt Sem α}{Q:α→SortSt→Prop}(h1:c→wpS (model prog w) A E s x Q st)(h2:¬c→wpS (model prog w) A E s y Q st):wpS (model prog w) A E s (if c then x else y) Q st:=by
 split
 ·rename_i z;exact h1 z
 ·rename_i z;exact h2 z
theorem tI(C:Cmp prog w A s κ O key dom){a b:Array Keyed}{Q:Array Keyed→SortSt→Prop}(hk:kindOf st=κ)(da:∀x∈a.toList,dom x)(db:∀x∈b.toList,dom x)(ha:0 < a.size)(hb:0 < b.size)
  (pa:a.toList.Pairwise (Le O key)) (pb:b.toList.Pairwise (Le O key)) (h0:∀y∈b.toList,Le O key y (at' a (a.size - 1))) (h1:∀y∈a.toList,Le O key (at' b 0) y)
  (h:∀r st',SS st st'→fz (Le O key) (a.toList++b.toList) r.toList→Q r st'):wpS (model prog w) A E s (vm a b) Q st:=by
 refine wpS_bind (wpS_lift (wpAny_rule ⟨rfl,?_⟩))
 have ha':a.size - 1 < a.size:=by exact Nat.sub_lt ‹_› Nat.one_pos
 refine wpS_bind (e8 ha' ?_)
 obtain⟨T,hT⟩:∃T,T=a.toList++b.toList:=⟨_,rfl⟩
 rw[←hT]at h
 have g0:H (Le O key) T (a.toList.take (a.size - 1)) (b.toList.take b.size) (#[at' a (a.size - 1)]:Array Keyed).toList.reverse:=by
  have q:H (Le O key) T (a.toList.take (a.size - 1+1)) (b.toList.take b.size) (#[]:Array Keyed).toList.reverse:=by
   have e1:a.toList.take (a.size - 1+1)=a.toList:=List.take_of_length_le (by simp;lia)
   have e2:b.toList.take b.size=b.toList:=List.take_of_length_le (by simp)
   rw[e1,e2]
   exact⟨by simp[hT],by simpa using pa,by simpa using pb⟩
  exact q.pushA ha' fun y hy=>h0 y (List.mem_of_mem_take hy)
 have dA:∀i,i < a.size→dom (at' a i):=fun i hi=>da _ (ip hi)
 have dB:∀i,i < b.size→dom (at' b i):=fun i hi=>db _ (ip hi)
 by_cases e1:(a.size - 1 == 0)=true
 ·refine aN e1 ?_
  exact wpS_pure (h _ st (SS.refl _) (g0.doneA (by simpa using e1)))
 refine aI e1 ?_
 by_cases e2:(b.size == 1)=true
 ·refine aN e2 ?_
  exact wpS_pure (h _ st (SS.refl _) (g0.firstB (by simpa using e2) h1))
 refine aI e2 ?_
 refine wpS_bind (wpS_get ?_)
 refine wpS_bind (wpS_mono (wpS_forRange (I:=fun x c st'=>SS st st'∧∃na nb out mg,c=(none,na,nb,out,mg)∧na≤a.size∧1≤na∧nb≤b.size∧2≤nb∧na+nb+x < a.size+b.size∧H (Le O key) T (a.toList.take na) (b.toList.take nb) out.toList.reverse)
  (Q:=fun c st'=>SS st st'∧∃r o,c=(some r,o)∧fz (Le O key) T r.toList) ?s1 ?s2 ⟨SS.refl _,a.size - 1,b.size,_,_,rfl,by exact Nat.sub_le _ _,by simp at e1;exact Nat.pos_of_ne_zero ‹_›,by exact dw _,by simp at e2;lia,by lia,g0⟩) ?s3)
 case s3=>
  rintro c st' ⟨hs,r,o,rfl,hg⟩
  exact wpS_pure (h r st' hs hg)
 case s2=>
  rintro c st' ⟨hs,na,nb,out,mg,rfl,p1,q1,p2,q2,q3,g⟩
  lia
 case s1=>
  rintro x c st1 - hx ⟨hs,na,nb,out,mg,rfl,p1,q1,p2,q2,q3,g⟩
  refine wpS_bind (wpS_mono (wpS_forRange (I:=fun y c st'=>SS st st'∧∃na nb out ac bc,c=(none,na,nb,out,ac,bc)∧na≤a.size∧1≤na∧nb≤b.size∧2≤nb∧na+nb+x < a.size+b.size∧(y=0∨na+nb+(x+1) < a.size+b.size)∧H (Le O key) T (a.toList.take na) (b.toList.take nb) out.toList.reverse)
   (Q:=fun c st'=>SS st st'∧((∃r o,c=(some r,o)∧fz (Le O key) T r.toList)∨∃na nb out ac bc,c=(none,na,nb,out,ac,bc)∧na≤a.size∧1≤na∧nb≤b.size∧2≤nb∧na+nb+(x+1) < a.size+b.size∧H (Le O key) T (a.toList.take na) (b.toList.take nb) out.toList.reverse)) ?t1 ?t2 ⟨hs,na,nb,out,0,0,rfl,p1,q1,p2,q2,q3,.inl rfl,g⟩) ?t3)
  case t2=>
   rintro c st' ⟨hs,na,nb,out,ac,bc,rfl,p1,q1,p2,q2,q3,q4,g⟩
   exact⟨hs,.inr ⟨na,nb,out,ac,bc,rfl,p1,q1,p2,q2,by lia,g⟩⟩
  case t1=>
   rintro y c st2 - hy ⟨hs,na,nb,out,ac,bc,rfl,p1,q1,p2,q2,q3,q4,g⟩
   obtain⟨na,rfl⟩:∃n,na=n+1:=⟨na - 1,by exact(Nat.sub_add_cancel ‹_›).symm⟩
   obtain⟨nb,rfl⟩:∃n,nb=n+1:=⟨nb - 1,by lia⟩
   have p1':na < a.size:=by assumption
   have p2':nb < b.size:=by assumption
   refine wpS_bind (e8 p2' ?_)
   refine wpS_bind (e8 p1' ?_)
   refine wpS_bind (vn C (hs.kind.trans hk) (dB _ p2') (dA _ p1') ?_)
   simp only[Nat.add_sub_cancel]
   cases e:O.blt (key (at' b nb)) (key (at' a na))with
   |true=>
    refine wpS_bind (e8 p1' ?_)
    have g':=g.pushA p1' (fun y hy=>(rL pb p2' hy).trans (Le.of e))
    by_cases z:(na == 0)=true
    ·exact aN z (wpS_pure ⟨hs,.inl ⟨_,_,rfl,g'.doneA (by simpa using z)⟩⟩)
    ·refine aI z ?_
     have z':1≤na:=by simp at z;exact Nat.pos_of_ne_zero ‹_›
     split
     ·exact wpS_pure ⟨hs,.inr ⟨na,nb+1,_,_,_,rfl,by exact g7 ‹_›,z',p2,q2,by lia,g'⟩⟩
     ·exact wpS_pure ⟨hs,na,nb+1,_,_,_,rfl,by exact g7 ‹_›,z',p2,q2,by lia,.inr (by lia),g'⟩
   |false=>
    refine wpS_bind (e8 p2' ?_)
    have g':=g.pushB p2' (fun y hy=>(rL pa p1' hy).trans e)
    by_cases z:(nb == 1)=true
    ·exact aN z (wpS_pure ⟨hs,.inl ⟨_,_,rfl,g'.firstB (by simpa using z) h1⟩⟩)
    ·refine aI z ?_
     have z':2≤nb:=by simp at z;lia
     split
     ·exact wpS_pure ⟨hs,.inr ⟨na+1,nb,_,_,_,rfl,p1,q1,by exact g7 ‹_›,z',by lia,g'⟩⟩
     ·exact wpS_pure ⟨hs,na+1,nb,_,_,_,rfl,p1,q1,by exact g7 ‹_›,z',by lia,.inr (by lia),g'⟩
  case t3=>
   rintro c st2 ⟨hs,⟨r,o,rfl,hg⟩ |⟨na,nb,out,ac,bc,rfl,p1,q1,p2,q2,q3,g⟩⟩
   ·exact wpS_pure ⟨hs,r,_,rfl,hg⟩
   ·refine wpS_bind (wpS_lift (wpAny_rule ⟨rfl,?_⟩))
    refine wpS_bind (wpS_mono (wpS_forRange (I:=fun y c st'=>SS st st'∧∃na nb out mg ac bc,c=(none,na,nb,out,mg,ac,bc)∧na≤a.size∧1≤na∧nb≤b.size∧2≤nb∧na+nb+(x+1) < a.size+b.size∧H (Le O key) T (a.toList.take na) (b.toList.take nb) out.toList.reverse)
     (Q:=fun c st'=>SS st st'∧((∃r o,c=(some r,o)∧fz (Le O key) T r.toList)∨∃na nb out mg ac bc,c=(none,na,nb,out,mg,ac,bc)∧na≤a.size∧1≤na∧nb≤b.size∧2≤nb∧na+nb+(x+1) < a.size+b.size∧H (Le O key) T (a.toList.take na) (b.toList.take nb) out.toList.reverse)) ?u1 ?u2 ⟨hs,na,nb,out,_,ac,bc,rfl,p1,q1,p2,q2,q3,g⟩) ?u3)
    case u2=>
     rintro c st' ⟨hs,na,nb,out,mg,ac,bc,rfl,p1,q1,p2,q2,q3,g⟩
     exact⟨hs,.inr ⟨na,nb,out,mg,ac,bc,rfl,p1,q1,p2,q2,by assumption,g⟩⟩
    case u3=>
     rintro c st3 ⟨hs,⟨r,o,rfl,hg⟩ |⟨na,nb,out,mg,ac,bc,rfl,p1,q1,p2,q2,q3,g⟩⟩
     ·exact wpS_pure ⟨hs,r,_,rfl,hg⟩
     ·exact wpS_bind (nH hs fun st4 h4=>wpS_pure ⟨h4,na,nb,out,_,rfl,p1,q1,p2,q2,q3,g⟩)
    case u1=>
     rintro y c st3 - hy ⟨hs,na,nb,out,mg,ac,bc,rfl,p1,q1,p2,q2,q3,g⟩
     refine zX fun R hR=>?_
     have Rd:∀r o st',SS st st'→fz (Le O key) T r.toList→R (.done (some r,o)) st':=fun r o st' a1 a2=>by rw[hR];exact⟨a1,.inl ⟨r,o,rfl,a2⟩⟩
     have Rn:∀na nb out mg ac bc st',SS st st'→na≤a.size→1≤na→nb≤b.size→2≤nb→na+nb+(x+1) < a.size+b.size→H (Le O key) T (a.toList.take na) (b.toList.take nb) out.toList.reverse→R (.done (none,na,nb,out,mg,ac,bc)) st':=
      fun na nb out mg ac bc st' a1 a2 a3 a4 a5 a6 a7=>by rw[hR];exact⟨a1,.inr ⟨_,_,_,_,_,_,rfl,a2,a3,a4,a5,a6,a7⟩⟩
     have Ry:∀na nb out mg ac bc st',SS st st'→na≤a.size→1≤na→nb≤b.size→2≤nb→na+nb+(x+1) < a.size+b.size→H (Le O key) T (a.toList.take na) (b.toList.take nb) out.toList.reverse→R (.yield (none,na,nb,out,mg,ac,bc)) st':=
      fun na nb out mg ac bc st' a1 a2 a3 a4 a5 a6 a7=>by rw[hR];exact⟨a1,_,_,_,_,_,_,rfl,a2,a3,a4,a5,a6,a7⟩
     clear hR
     obtain⟨nb,rfl⟩:∃n,nb=n+1:=⟨nb - 1,by lia⟩
     have p2':nb < b.size:=by assumption
     have q2':1≤nb:=by exact Nat.le_of_lt_succ ‹_›
     extract_lets
     rename Unit→Nat→_=>jp
     refine BI (jp ()) fun mg'=>?_
     refine wpS_bind (nH hs fun st4 h4=>?_)
     refine wpS_bind (e8 p2' ?_)
     refine wpS_bind (fK C (k:=at' b nb) (base:=0) (n:=na) (hint:=na - 1) (h4.kind.trans hk) (by exact Nat.sub_lt ‹_› Nat.one_pos) (by lia) (dB _ p2') dA ?m1 fun k hk1 hk2 hk3=>?_)
     case m1=>
      intro i j hij hj e
      simp only[fg,Bool.not_eq_true',ca]at e ⊢
      exact(mv pa (by exact g7 ‹_›) (by exact i7 ‹_› ‹_›):Le O key (at' a i) (at' a j)).trans e
     simp only[fg,Bool.not_eq_true',Bool.not_eq_false',ca]at hk2 hk3
     dsimp -zeta only
     extract_lets
     rename Unit→Nat→Array Keyed→_=>jp1
     have J1:∀(na:Nat) (out:Array Keyed),na≤a.size→1≤na→na+(nb+1)+(x+1) < a.size+b.size→H (Le O key) T (a.toList.take na) (b.toList.take (nb+1)) out.toList.reverse→(∀y∈a.toList.take na,Le O key y (at' b nb))→wpS (model prog w) A E s (jp1 () na out) R st4:=by
      intro na out p1 q1 q3 g hl
      obtain⟨na,rfl⟩:∃n,na=n+1:=⟨na - 1,by exact(Nat.sub_add_cancel ‹_›).symm⟩
      have p1':na < a.size:=by assumption
      refine wpS_bind (e8 p2' ?_)
      have g':=g.pushB p2' hl
      by_cases z:(nb == 1)=true
      ·exact aN z (wpS_pure (Rd _ _ _ h4 (g'.firstB (by simpa using z) h1)))
      refine aI z ?_
      have z':2≤nb:=by simp at z;lia
      refine wpS_bind (e8 p1' ?_)
      refine wpS_bind (fK C (k:=at' a na) (base:=0) (n:=nb) (hint:=nb - 1) (h4.kind.trans hk) (by exact Nat.sub_lt ‹_› Nat.one_pos) (by lia) (dA _ p1') dB ?m2 fun k' hk1' hk2' hk3'=>?_)
      case m2=>
       intro i j hij hj e
       simp only[fg,ca]at e ⊢
       exact KeyOrd.klt_of_kle_of_klt (O:=O) (mv pb (by exact g7 ‹_›) (by lia):Le O key (at' b i) (at' b j)) e
      simp only[fg,ca]at hk2' hk3'
      dsimp -zeta only
      extract_lets
      rename Unit→Nat→Array Keyed→_=>jp2
      have J2:∀(nb':Nat) (out:Array Keyed),nb'≤b.size→2≤nb'→na+1+nb'+(x+1) < a.size+b.size→H (Le O key) T (a.toList.take (na+1)) (b.toList.take nb') out.toList.reverse→(∀y∈b.toList.take nb',Le O key y (at' a na))→wpS (model prog w) A E s (jp2 () nb' out) R st4:=by
       intro nb' out r1 r2 r3 g hl
       refine wpS_bind (e8 p1' ?_)
       have g':=g.pushA p1' hl
       by_cases z:(na == 0)=true
       ·exact aN z (wpS_pure (Rd _ _ _ h4 (g'.doneA (by simpa using z))))
       refine aI z ?_
       have z':1≤na:=by simp at z;exact Nat.pos_of_ne_zero ‹_›
       refine fA (fun _=>?_) (fun _=>?_)
       ·exact wpS_pure (Rn _ _ _ _ _ _ _ h4 (by exact g7 ‹_›) z' r1 r2 (by lia) g')
       ·exact wpS_pure (Ry _ _ _ _ _ _ _ h4 (by exact g7 ‹_›) z' r1 r2 (by lia) g')
      clear_value jp2
      have tl:∀y∈b.toList.take k',Le O key y (at' a na):=fun y hy=>by
       obtain⟨j,r1,r2,rfl⟩:=nI hy
       exact Le.of (hk2' j r1)
      by_cases z2:nb - k' > 0
      ·refine aN z2 ?_
       have g2:=g'.blkB hk1' fun j j1 j2 j3 y hy=>(rL pa p1' hy).trans (hk3' j j1 j2)
       by_cases z3:(k' == 1)=true
       ·exact aN z3 (wpS_pure (Rd _ _ _ h4 (g2.firstB (by simpa using z3) h1)))
       refine aI z3 ?_
       by_cases z4:(k' == 0)=true
       ·exact aN z4 (wpS_pure (Rd _ _ _ h4 (g2.doneB (by simpa using z4))))
       ·exact aI z4 (J2 k' _ (by lia) (by simp at z3 z4;lia) (by lia) g2 tl)
      ·have k0:k'=nb:=by exact Nat.le_antisymm ‹_› (Nat.sub_eq_zero_iff_le.mp (Nat.eq_zero_of_not_pos ‹_›))
       subst k0
       exact aI z2 (J2 k' _ (by exact g7 ‹_›) z' (by lia) g' tl)
     clear_value jp1
     have tl:∀y∈a.toList.take k,Le O key y (at' b nb):=fun y hy=>by
      obtain⟨j,r1,r2,rfl⟩:=nI hy
      exact hk2 j r1
     by_cases z2:na - k > 0
     ·refine aN z2 ?_
      have g2:=g.blkA hk1 fun j j1 j2 j3 y hy=>(rL pb p2' hy).trans (Le.of (hk3 j j1 j2))
      by_cases z3:(k == 0)=true
      ·exact aN z3 (wpS_pure (Rd _ _ _ h4 (g2.doneA (by simpa using z3))))
      ·exact aI z3 (J1 k _ (by exact gG ‹_› ‹_›) (by simp at z3;exact Nat.pos_of_ne_zero ‹_›) (by lia) g2 tl)
     ·have k0:k=na:=by exact Nat.le_antisymm ‹_› (Nat.sub_eq_zero_iff_le.mp (Nat.eq_zero_of_not_pos ‹_›))
      subst k0
      exact aI z2 (J1 k _ p1 q1 q3 g tl)
end
end NhLS
namespace NhLS
set_option autoImplicit false
open PySem PyProof.Rows
def So(O:KeyOrd)(key:Keyed→O.α)(a:Array Keyed)(lo hi:Nat):Prop:=∀i j,lo≤i→i < j→j < hi→Le O key (at' a i) (at' a j)
section
variable {O:KeyOrd} {key:Keyed→O.α} {a b:Array Keyed} {i j lo hi p:Nat} {x y z:Keyed}
theorem So.le(h:So O key a lo hi)(h1:lo≤i)(h2:i≤j)(h3:j < hi):Le O key (at' a i) (at' a j):=by
 by_cases e:i=j
 ·rw[e];exact Le.refl _
 ·exact h i j h1 (by exact Nat.lt_of_le_of_ne ‹_› ‹_›) h3
theorem So.ext(h:So O key a lo hi)(q:∀j,lo≤j→j < hi→at' b j=at' a j):So O key b lo hi:=fun i j h1 h2 h3=>by
 rw[q i (by assumption) (by lia),q j (by lia) h3]
 exact h i j h1 h2 h3
theorem o7(h1:i+j < hi)(h2:hi≤a.size):at' (a.extract i hi) j=at' a (i+j):=by
 simp[at',Array.getD,show j < min hi a.size - i by lia,show i+j < a.size by exact i7 ‹_› ‹_›]
theorem yF(h1:lo≤hi)(h2:hi≤a.size):(a.extract lo hi).size=hi - lo:=by
 rw[Array.size_extract]
 lia
theorem yG(h:So O key a lo hi)(h2:hi≤a.size):(a.extract lo hi).toList.Pairwise (Le O key):=by
 rw[List.pairwise_iff_getElem]
 intro i j hi' hj hij
 rw[pT,Array.size_extract]at hi' hj
 rw[fL,fL,o7 (by lia) h2,o7 (by lia) h2]
 exact h _ _ (by exact lB _ _) (by exact Nat.add_lt_add_left ‹_› _) (by lia)
theorem zY(h:i < a.size)(j:Nat):at' (a.setIfInBounds i x) j=if i=j then x else at' a j:=by
 unfold at'
 rw[Array.getD_eq_getD_getElem?,Array.getD_eq_getD_getElem?,Array.getElem?_setIfInBounds]
 by_cases e:i=j
 ·subst e;simp[h]
 ·simp[e]
def wr(a:Array Keyed)(p:Nat)(M:List (Keyed×Nat)):Array Keyed:=M.foldl (fun a q=>a.setIfInBounds (p+q.2) q.1) a
theorem rN(p:Nat):∀(M:List (Keyed×Nat)) (a:Array Keyed),(wr a p M).size=a.size
 |[],a=>rfl
 |q::M,a=>(rN p M _).trans (Array.size_setIfInBounds ..)
theorem vp(p:Nat):∀(M:List Keyed) (n:Nat) (a:Array Keyed),p+n+M.length≤a.size→∀j,at' (wr a p (M.zipIdx n)) j=if p+n≤j∧j < p+n+M.length then M.getD (j - (p+n)) xt else at' a j
 |[],n,a,h,j=>by
  rw[if_neg (by simp)]
  rfl
 |x::M,n,a,h,j=>by
  rw[List.length_cons]at h
  show at' (wr (a.setIfInBounds (p+n) x) p (M.zipIdx (n+1))) j=_
  rw[vp p M (n+1) _ (by rw[Array.size_setIfInBounds];lia),zY (by lia),List.length_cons]
  by_cases e:p+n=j
  ·subst e
   rw[if_neg (by lia),if_pos rfl,if_pos (by lia),Nat.sub_self]
   rfl
  ·by_cases q:p+(n+1)≤j∧j < p+(n+1)+M.length
   ·rw[if_pos q,if_pos (by lia),show j - (p+n)=(j - (p+(n+1)))+1 by lia]
    rfl
   ·rw[if_neg q,if_neg e,if_neg (by lia)]
theorem xu(M:List Keyed)(a:Array Keyed)(h:p+M.length≤a.size):(wr a p M.zipIdx).toList=a.toList.take p++M++a.toList.drop (p+M.length):=by
 have hs:=rN p M.zipIdx a
 refine List.ext_getElem (by simp[hs];lia) fun i h1 h2=>?_
 rw[fL,show M.zipIdx=M.zipIdx 0 from rfl,vp p M 0 a (by assumption)]
 have h1':i < a.size:=by simpa[hs]using h1
 by_cases c1:i < p
 ·rw[if_neg (by lia),List.getElem_append_left (by simp;lia),List.getElem_append_left (by simp;lia),List.getElem_take,fL]
 ·by_cases c2:i < p+M.length
  ·rw[if_pos (by lia),List.getElem_append_left (by simp;lia),List.getElem_append_right (by simp;lia)]
   have e:i - (a.toList.take p).length=i - (p+0):=by simp;lia
   simp only[e]
   simp[show i - p < M.length by lia]
  ·rw[if_neg (by exact fun h=>‹¬_› h.2),List.getElem_append_right (by simp;lia),List.getElem_drop,fL]
   congr 1
   simp
   lia
end
section
variable {prog:Program} {w:World} {A:Around} {E:Value→Shared→Prop} {s:Shared} {κ:SortKind} {O:KeyOrd} {key:Keyed→O.α} {dom:Keyed→Prop}
theorem xv{st st':SortSt}{Q:PUnit→SortSt→Prop}(h:Q ⟨⟩ st'):wpS (model prog w) A E s (set st':StateT SortSt Sem PUnit) Q st:=by
 unfold wpS;rw[StateT.run_set];exact wpAny_pure ⟨rfl,h⟩
theorem tJ(C:Cmp prog w A s κ O key dom){a:Array Keyed}{pd:Array (Nat×Nat×Nat)}{g i sa na pw nb pw':Nat}{Q:Bool→SortSt→Prop}(da:∀i,i < a.size→dom (at' a i))(hp1:pd[i]? =some (sa,na,pw))(hp2:pd[i+1]? =some (sa+na,nb,pw'))
  (h1:1≤na) (h2:1≤nb) (hz:sa+na+nb≤a.size) (s1:So O key a sa (sa+na)) (s2:So O key a (sa+na) (sa+na+nb))
  (h:∀b g',b.toList.Perm a.toList→(∀j,j < sa∨sa+na+nb≤j→at' b j=at' a j)→So O key b sa (sa+na+nb)→Q true (SortSt.mk' κ b ((pd.setIfInBounds i (sa,na+nb,pw)).eraseIdxIfInBounds (i+1)) g' none)):
  wpS (model prog w) A E s (mergeAt' i) Q (SortSt.mk' κ a pd g none):=by
 refine wpS_bind (wpS_get ?_)
 simp only[hp1,hp2]
 refine wpS_bind (xv ?_)
 have b1:sa+na < a.size:=by lia
 refine wpS_bind (e8 b1 ?_)
 refine wpS_bind (fK C (k:=at' a (sa+na)) (arr:=a) (base:=sa) (n:=na) (hint:=0) rfl (by assumption) (by exact g7 ‹_›) (da _ b1) da ?m1 fun k hk1 hk2 hk3=>?_)
 case m1=>
  intro i j hij hj e
  simp only[fg,Bool.not_eq_true',ca]at e ⊢
  exact(s1.le (by exact lB _ _) (by lia) (by exact Nat.add_lt_add_left ‹_› _):Le O key (at' a (sa+i)) (at' a (sa+j))).trans e
 simp only[fg,Bool.not_eq_true',Bool.not_eq_false',ca]at hk2 hk3
 have lo:∀i,sa≤i→i < sa+k→∀j,sa+na≤j→j < sa+na+nb→Le O key (at' a i) (at' a j):=fun i r1 r2 j r3 r4=>by
  have:=hk2 (i - sa) (by exact Nat.sub_lt_left_of_lt_add ‹_› ‹_›)
  rw[show sa+(i - sa)=i by exact Nat.add_sub_of_le ‹_›]at this
  exact Le.trans this (s2.le (by(solve_by_elim (maxDepth:=3) only[*,gG,i7,sm,g7,Nat.add_le_add_left,Nat.add_lt_add_left,lB,Nat.lt_of_succ_lt])) r3 r4)
 by_cases z:(na - k == 0)=true
 ·refine aN z (wpS_pure (h a g (List.Perm.refl _) (fun _ _=>rfl) fun i j r1 r2 r3=>?_))
  have z':k=na:=by simp at z;lia
  by_cases c:j < sa+na
  ·exact s1 i j r1 r2 c
  ·by_cases c':i < sa+na
   ·exact lo i r1 (by lia) j (by exact Nat.le_of_not_lt ‹_›) r3
   ·exact s2 i j (by exact Nat.le_of_not_lt ‹_›) r2 r3
 refine aI z ?_
 have z':k < na:=by simp at z;lia
 have b2:sa+na - 1 < a.size:=by exact sm (Nat.sub_le _ _) ‹_›
 rw[show sa+k+(na - k) - 1=sa+na - 1 by lia]
 refine wpS_bind (e8 b2 ?_)
 refine wpS_bind (fK C (k:=at' a (sa+na - 1)) (arr:=a) (base:=sa+na) (n:=nb) (hint:=nb - 1) rfl (by exact Nat.sub_lt ‹_› Nat.one_pos) (by assumption) (da _ b2) da ?m2 fun m hm1 hm2 hm3=>?_)
 case m2=>
  intro i j hij hj e
  simp only[fg,if_true]at e ⊢
  exact KeyOrd.klt_of_kle_of_klt (O:=O) (s2.le (by exact lB _ _) (by lia) (by exact Nat.add_lt_add_left ‹_› _):Le O key (at' a (sa+na+i)) (at' a (sa+na+j))) e
 simp only[fg,if_true]at hm2 hm3
 have up:∀j,sa+na+m≤j→j < sa+na+nb→∀i,sa≤i→i < sa+na→Le O key (at' a i) (at' a j):=fun j r3 r4 i r1 r2=>by
  have:=hm3 (j - (sa+na)) (by exact Nat.le_sub_of_add_le' ‹_›) (by lia)
  rw[show sa+na+(j - (sa+na))=j by exact Nat.add_sub_of_le (gG (lB _ _) ‹_›)]at this
  exact(s1.le r1 (by lia) (by lia):Le O key (at' a i) (at' a (sa+na - 1))).trans this
 by_cases y:(m == 0)=true
 ·refine aN y (wpS_pure (h a g (List.Perm.refl _) (fun _ _=>rfl) fun i j r1 r2 r3=>?_))
  have y':m=0:=by simpa using y
  by_cases c:j < sa+na
  ·exact s1 i j r1 r2 c
  ·by_cases c':i < sa+na
   ·exact up j (by lia) r3 i r1 c'
   ·exact s2 i j (by exact Nat.le_of_not_lt ‹_›) r2 r3
 refine aI y ?_
 have y':0 < m:=by simp at y;exact Nat.pos_of_ne_zero ‹_›
 have zx:(a.extract (sa+k) (sa+na)).size=na - k:=by rw[yF (by exact Nat.add_le_add_left ‹_› _) (by exact g7 ‹_›)];lia
 have zy:(a.extract (sa+na) (sa+na+m)).size=m:=by rw[yF (by exact lB _ _) (by lia)];lia
 have mx:∀x∈(a.extract (sa+k) (sa+na)).toList,∃t,sa+k≤t∧t < sa+na∧x=at' a t:=fun x hx=>by
  obtain⟨t,t1,t2,t3,t4⟩:=nK hx
  exact⟨t,t1,t2,t4⟩
 have my:∀x∈(a.extract (sa+na) (sa+na+m)).toList,∃t,sa+na≤t∧t < sa+na+m∧x=at' a t:=fun x hx=>by
  obtain⟨t,t1,t2,t3,t4⟩:=nK hx
  exact⟨t,t1,t2,t4⟩
 have dx:∀x∈(a.extract (sa+k) (sa+na)).toList,dom x:=fun x hx=>by obtain⟨t,t1,t2,rfl⟩:=mx x hx;exact da _ (by lia)
 have dy:∀x∈(a.extract (sa+na) (sa+na+m)).toList,dom x:=fun x hx=>by obtain⟨t,t1,t2,rfl⟩:=my x hx;exact da _ (by lia)
 have px:=yG (hi:=sa+na) (lo:=sa+k) (a:=a) (fun i j r1 r2 r3=>s1 i j (by exact gG (lB _ _) ‹_›) r2 r3) (by exact g7 ‹_›)
 have py:=yG (hi:=sa+na+m) (lo:=sa+na) (a:=a) (fun i j r1 r2 r3=>s2 i j (by assumption) r2 (by lia)) (by lia)
 have fx:at' (a.extract (sa+k) (sa+na)) 0=at' a (sa+k):=o7 (by exact Nat.add_lt_add_left ‹_› _) (by exact g7 ‹_›)
 have lx:at' (a.extract (sa+k) (sa+na)) ((a.extract (sa+k) (sa+na)).size - 1)=at' a (sa+na - 1):=by
  rw[zx,o7 (by lia) (by exact g7 ‹_›)]
  congr 1
  lia
 have fy:at' (a.extract (sa+na) (sa+na+m)) 0=at' a (sa+na):=o7 (by exact Nat.add_lt_add_left ‹_› _) (by lia)
 have h0:O.blt (key (at' a (sa+na))) (key (at' a (sa+k)))=true:=hk3 k (by exact dw _) z'
 have yl:∀y∈(a.extract (sa+na) (sa+na+m)).toList,Le O key y (at' a (sa+na - 1)):=fun y hy=>by
  obtain⟨t,t1,t2,rfl⟩:=my y hy
  have:=hm2 (t - (sa+na)) (by exact Nat.sub_lt_left_of_lt_add ‹_› ‹_›)
  rw[show sa+na+(t - (sa+na))=t by exact Nat.add_sub_of_le ‹_›]at this
  exact Le.of this
 have xf:∀y∈(a.extract (sa+k) (sa+na)).toList,Le O key (at' a (sa+na)) y:=fun y hy=>by
  obtain⟨t,t1,t2,rfl⟩:=mx y hy
  exact(Le.of h0).trans (s1.le (by exact lB _ _) t1 t2)
 have fin:∀(r:Array Keyed) (g':Nat),fz (Le O key) ((a.extract (sa+k) (sa+na)).toList++(a.extract (sa+na) (sa+na+m)).toList) r.toList→
   Q true (SortSt.mk' κ (wr a (sa+k) r.toList.zipIdx) ((pd.setIfInBounds i (sa,na+nb,pw)).eraseIdxIfInBounds (i+1)) g' none):=by
  intro r g' ⟨gp,gs⟩
  have rl:r.toList.length=na - k+m:=by rw[gp.length_eq,List.length_append,pT,pT,zx,zy]
  have at1:=vp (sa+k) r.toList 0 a (by lia)
  have rm:∀x∈r.toList,∃t,sa+k≤t∧t < sa+na+m∧x=at' a t:=fun x hx=>by
   rcases Zao.mp (gp.mem_iff.mp hx)with hx |hx
   ·obtain⟨t,t1,t2,e⟩:=mx x hx
    exact⟨t,t1,by exact Nat.lt_add_right _ ‹_›,e⟩
   ·obtain⟨t,t1,t2,e⟩:=my x hx
    exact⟨t,by lia,t2,e⟩
  have rg:∀n,n < r.toList.length→r.toList.getD n xt=at' r n:=fun n hn=>by
   have hn':n < r.size:=by simpa using hn
   rw[←fL hn]
   simp[hn']
  have rt:∀n,n < r.toList.length→∃t,sa+k≤t∧t < sa+na+m∧at' r n=at' a t:=fun n hn=>rm _ (by rw[←fL hn];exact List.getElem_mem _)
  refine h _ g' ?_ (fun j hj=>?_) fun i j r1 r2 r3=>?_
  ·rw[xu _ _ (by lia)]
   have ea:a.toList=a.toList.take (sa+k)++((a.extract (sa+k) (sa+na)).toList++(a.extract (sa+na) (sa+na+m)).toList)++a.toList.drop (sa+k+r.toList.length):=by
    rw[←lA,←nJ (by exact Nat.add_le_add_left ‹_› _),←nJ (by exact lB _ _),rl,show sa+k+(na - k+m)=sa+na+m by lia,List.take_append_drop]
   refine List.Perm.trans ?_ (List.Perm.of_eq ea.symm)
   exact List.Perm.append_right _ (List.Perm.append_left _ gp)
  ·show at' (wr a (sa+k) (r.toList.zipIdx 0)) j=_
   rw[at1,if_neg (by lia)]
  ·show Le O key (at' (wr a (sa+k) (r.toList.zipIdx 0)) i) (at' (wr a (sa+k) (r.toList.zipIdx 0)) j)
   rw[at1,at1]
   by_cases ci:i < sa+k
   ·rw[if_neg (by lia)]
    by_cases cj:j < sa+na+m
    ·by_cases cj':j < sa+k
     ·rw[if_neg (by lia)]
      exact s1 i j r1 r2 (by lia)
     ·rw[if_pos (by lia),rg _ (by lia)]
      obtain⟨t,t1,t2,e⟩:=rt (j - (sa+k+0)) (by lia)
      rw[e]
      by_cases ct:t < sa+na
      ·exact s1 i t r1 (by exact i7 ‹_› ‹_›) ct
      ·exact lo i r1 ci t (by exact Nat.le_of_not_lt ‹_›) (by lia)
    ·rw[if_neg (by lia)]
     exact lo i r1 ci j (by lia) r3
   ·by_cases ci':i < sa+na+m
    ·rw[if_pos (by lia),rg _ (by lia)]
     by_cases cj:j < sa+na+m
     ·rw[if_pos (by lia),rg _ (by lia)]
      have:=List.pairwise_iff_getElem.mp gs (i - (sa+k+0)) (j - (sa+k+0)) (by lia) (by lia) (by lia)
      rw[fL,fL]at this
      exact this
     ·rw[if_neg (by lia)]
      obtain⟨t,t1,t2,e⟩:=rt (i - (sa+k+0)) (by lia)
      rw[e]
      by_cases ct:t < sa+na
      ·exact up j (by exact Nat.le_of_not_lt ‹_›) r3 t (by exact gG (lB _ _) ‹_›) ct
      ·exact s2 t j (by exact Nat.le_of_not_lt ‹_›) (by lia) r3
    ·rw[if_neg (by lia),if_neg (by lia)]
     exact s2 i j (by lia) r2 r3
 refine fA (fun _=>?_) (fun _=>?_)
 ·refine wpS_bind (tH C rfl dx dy (by lia) (by lia) px py (by rw[fx,fy];exact h0) (by rw[lx];exact yl) fun r st' hs hg=>?_)
  obtain⟨g',rfl⟩:=hs
  exact wpS_bind (wpS_modify (wpS_bind (wpS_get (wpS_pure (fin r g' hg)))))
 ·refine wpS_bind (tI C rfl dx dy (by lia) (by lia) px py (by rw[lx];exact yl) (by rw[fy];exact xf) fun r st' hs hg=>?_)
  obtain⟨g',rfl⟩:=hs
  exact wpS_bind (wpS_modify (wpS_bind (wpS_get (wpS_pure (fin r g' hg)))))
end
end NhLS
namespace NhLS
set_option autoImplicit false
open PySem PyProof.Rows
structure Sx (a b:Array Keyed) (lo hi:Nat):Prop where
 perm:b.toList.Perm a.toList
 out:∀j,j < lo∨hi≤j→at' b j=at' a j
def Dn(O:KeyOrd)(key:Keyed→O.α)(a:Array Keyed)(lo hi:Nat):Prop:=∀i j,lo≤i→i < j→j < hi→Le O key (at' a j) (at' a i)
def Eqs(O:KeyOrd)(key:Keyed→O.α)(a:Array Keyed)(e q:Nat):Prop:=∀i,e - (q+1)≤i→i < e→Le O key (at' a i) (at' a (e - 1))∧Le O key (at' a (e - 1)) (at' a i)
section
variable {O:KeyOrd} {key:Keyed→O.α} {a b c:Array Keyed} {i j k lo hi n q:Nat}
theorem Sx.refl:Sx a a lo hi:=⟨List.Perm.refl _,fun _ _=>rfl⟩
theorem Sx.trans(h1:Sx a b lo hi)(h2:Sx b c lo hi):Sx a c lo hi:=⟨h2.perm.trans h1.perm,fun j hj=>(h2.out j hj).trans (h1.out j hj)⟩
theorem Sx.size(h:Sx a b lo hi):b.size=a.size:=by have:=h.perm.length_eq;simpa using this
theorem Sx.dom{dom:Keyed→Prop}(h:Sx a b lo hi)(da:∀x∈a.toList,dom x):∀x∈b.toList,dom x:=fun x hx=>da x (h.perm.mem_iff.mp hx)
theorem xw(a:Array Keyed)(i:Nat):at' a i=(a[i]?).getD xt:=Array.getD_eq_getD_getElem? ..
theorem fV(hj:j≤a.size)(k:Nat):at' (mirror a i j ((j - i) / 2)) k=if i≤k∧k < j then at' a (i+j - 1 - k)else at' a k:=by
 rw[xw,getElem?_mirror_all hj]
 split <;> rw[xw]
theorem qz(hk:k < a.size)(hd:n≤k)(i:Nat):at' (bubble a k n) i=if i=k - n then at' a k else if k - n < i∧i≤k then at' a (i - 1)else at' a i:=by
 rw[xw,getElem?_bubble hk n hd]
 repeat' split
 all_goals rw[xw]
theorem Sx.rev(h1:lo≤i)(h2:j≤hi)(h3:j≤a.size):Sx a (mirror a i j ((j - i) / 2)) lo hi:=
 ⟨Array.perm_iff_toList_perm.mp (mirror_perm _ _ _ _),fun k hk=>by rw[fV h3,if_neg (by lia)]⟩
theorem Sx.bub(h1:k < a.size)(h0:n≤k)(h2:lo≤k - n)(h3:k < hi):Sx a (bubble a k n) lo hi:=
 ⟨Array.perm_iff_toList_perm.mp (bubble_perm _ _ _),fun j hj=>by rw[qz h1 h0,if_neg (by lia),if_neg (by lia)]⟩
theorem So.step(h:So O key a lo hi)(hl:lo < hi)(e:Le O key (at' a (hi - 1)) (at' a hi)):So O key a lo (hi+1):=fun i j h1 h2 h3=>by
 by_cases c:j < hi
 ·exact h i j h1 h2 c
 ·rw[show j=hi by lia]
  exact(h.le h1 (by lia) (by lia):Le O key (at' a i) (at' a (hi - 1))).trans e
theorem Dn.le(h:Dn O key a lo hi)(h1:lo≤i)(h2:i≤j)(h3:j < hi):Le O key (at' a j) (at' a i):=by
 by_cases e:i=j
 ·rw[e];exact Le.refl _
 ·exact h i j h1 (by exact Nat.lt_of_le_of_ne ‹_› ‹_›) h3
theorem Dn.step(h:Dn O key a lo hi)(hl:lo < hi)(e:Le O key (at' a hi) (at' a (hi - 1))):Dn O key a lo (hi+1):=fun i j h1 h2 h3=>by
 by_cases c:j < hi
 ·exact h i j h1 h2 c
 ·rw[show j=hi by lia]
  exact Le.trans e (h.le h1 (by lia) (by lia))
theorem Dn.rev(h:Dn O key a lo hi)(e:Eqs O key a hi q)(hz:hi≤a.size)(hq:lo+(q+1)≤hi):Dn O key (mirror a (hi - (q+1)) hi ((hi - (hi - (q+1))) / 2)) lo hi:=fun i j h1 h2 h3=>by
 rw[fV hz,fV hz]
 by_cases c:hi - (q+1)≤i
 ·rw[if_pos (by lia),if_pos (by lia)]
  exact(e _ (by lia) (by lia)).1.trans (e _ (by lia) (by lia)).2
 ·rw[if_neg (show ¬(hi - (q+1)≤i∧i < hi) by exact fun h=>‹¬_› h.1)]
  by_cases c':hi - (q+1)≤j
  ·rw[if_pos (by exact⟨‹_›,‹_›⟩)]
   exact h _ _ h1 (by lia) (by lia)
  ·rw[if_neg (by exact fun h=>‹¬_› h.1)]
   exact h _ _ h1 h2 h3
theorem Dn.flip(h:Dn O key a lo hi)(hz:hi≤a.size):So O key (mirror a lo hi ((hi - lo) / 2)) lo hi:=fun i j h1 h2 h3=>by
 rw[fV hz,fV hz,if_pos (by lia),if_pos (by lia)]
 exact h _ _ (by lia) (by lia) (by lia)
theorem Eqs.one:Eqs O key a (hi+1) 0:=fun i h1 h2=>by
 rw[show i=hi by lia]
 exact⟨Le.refl _,Le.refl _⟩
end
section
variable {prog:Program} {w:World} {A:Around} {E:Value→Shared→Prop} {s:Shared} {κ:SortKind} {O:KeyOrd} {key:Keyed→O.α} {dom:Keyed→Prop} {a:Array Keyed} {pd:Array (Nat×Nat×Nat)} {g:Nat}
theorem ju(C:Cmp prog w A s κ O key dom){i j:Nat}{Q:Option Bool→SortSt→Prop}(da:∀x∈a.toList,dom x)(hi:i < a.size)(hj:j < a.size)(h:Q (some (O.blt (key (at' a i)) (key (at' a j)))) (SortSt.mk' κ a pd g none)):wpS (model prog w) A E s (ltAt' i j) Q (SortSt.mk' κ a pd g none):=
 wpS_bind (wpS_get (wpS_bind (e8 hi (wpS_bind (e8 hj (vn C rfl (da _ (ip hi)) (da _ (ip hj)) h))))))
theorem rO{i j:Nat}{Q:Unit→SortSt→Prop}(h:Q () (SortSt.mk' κ (mirror a i j ((j - i) / 2)) pd g none)):wpS (model prog w) A E s (reverseSlice' i j) Q (SortSt.mk' κ a pd g none):=wpS_modify h
theorem zZ{k l:Nat}{Q:Unit→SortSt→Prop}(h:Q () (SortSt.mk' κ (bubble a k (k - l)) pd g none)):wpS (model prog w) A E s (moveDown' k l) Q (SortSt.mk' κ a pd g none):=wpS_modify h
theorem yH{lo n0 nrem:Nat}{β:Type}{body:Nat→Option β×Nat→StateT SortSt Sem (ForInStep (Option β×Nat))}{Q:Option β×Nat→SortSt→Prop}(h1:1≤n0)(h2:n0≤nrem)(hs:So O key a lo (lo+n0))
  (hb:∀x n (R:ForInStep (Option β×Nat)→SortSt→Prop),1≤n→n < nrem→R (if O.blt (key (at' a (lo+n))) (key (at' a (lo+n - 1)))=true then .done (none,n)else .yield (none,n+1)) (SortSt.mk' κ a pd g none)→wpS (model prog w) A E s (body x (none,n)) R (SortSt.mk' κ a pd g none))
  (h:∀n,n0≤n→n≤nrem→So O key a lo (lo+n)→(n < nrem→O.blt (key (at' a (lo+n))) (key (at' a (lo+n - 1)))=true)→Q (none,n) (SortSt.mk' κ a pd g none)):
  wpS (model prog w) A E s (forIn [n0:nrem] (none,n0) body) Q (SortSt.mk' κ a pd g none):=by
 refine wpS_forRange (I:=fun x c st'=>st'=SortSt.mk' κ a pd g none∧c=(none,x)∧n0≤x∧So O key a lo (lo+x)) ?_ ?_ ⟨rfl,rfl,dw _,hs⟩
 ·rintro x c st' q1 q2 ⟨rfl,rfl,q3,q4⟩
  refine hb x x _ (by exact i7 ‹_› ‹_›) q2 ?_
  cases e:O.blt (key (at' a (lo+x))) (key (at' a (lo+x - 1)))with
  |true=>exact h x q3 (by exact g7 ‹_›) q4 fun _=>e
  |false=>exact⟨rfl,rfl,by(solve_by_elim (maxDepth:=3) only[*,gG,i7,sm,g7]),q4.step (by lia) e⟩
 ·rintro c st' ⟨rfl,rfl,q3,q4⟩
  rw[show max n0 nrem=nrem by exact Nat.max_eq_right ‹_›]at q4 ⊢
  exact h nrem h2 (dw _) q4 fun z=>absurd z (Nat.lt_irrefl _)
theorem nM(C:Cmp prog w A s κ O key dom){lo n ok:Nat}{Q:Bool→SortSt→Prop}(da:∀x∈a.toList,dom x)(h1:1≤ok)(h2:ok≤n)(hz:lo+n≤a.size)(hs:So O key a lo (lo+ok))
  (h:∀b,Sx a b lo (lo+n)→So O key b lo (lo+n)→Q true (SortSt.mk' κ b pd g none)):wpS (model prog w) A E s (binarySort' lo n ok) Q (SortSt.mk' κ a pd g none):=by
 refine wpS_bind (wpS_mono (wpS_forRange (I:=fun k c st'=>c=(none,())∧∃b,st'=SortSt.mk' κ b pd g none∧Sx a b lo (lo+n)∧So O key b lo (lo+k)) (Q:=fun c st'=>c=(none,())∧∃b,st'=SortSt.mk' κ b pd g none∧Sx a b lo (lo+n)∧So O key b lo (lo+n)) ?s1 ?s2 ⟨rfl,a,rfl,.refl,by rw[show max ok 1=ok by exact Nat.max_eq_left ‹_›];exact hs⟩) ?s3)
 case s3=>
  rintro c st' ⟨rfl,b,rfl,sb,ss⟩
  exact wpS_pure (h b sb ss)
 case s2=>
  rintro c st' ⟨rfl,b,rfl,sb,ss⟩
  rw[show max (max ok 1) n=n by lia]at ss
  exact⟨rfl,b,rfl,sb,ss⟩
 case s1=>
  rintro k c st' k1 k2 ⟨rfl,b,rfl,sb,ss⟩
  have bz:=sb.size
  have ik:lo+k < b.size:=by lia
  refine wpS_bind (wpS_mono (wpS_forRange (I:=fun x c st'=>st'=SortSt.mk' κ b pd g none∧∃l r,c=(none,l,r)∧l≤r∧r≤k∧r+x≤k+l∧(∀i,i < l→Le O key (at' b (lo+i)) (at' b (lo+k)))∧(∀i,r≤i→i < k→Le O key (at' b (lo+k)) (at' b (lo+i))))
   (Q:=fun c st'=>st'=SortSt.mk' κ b pd g none∧∃l,c=(none,l,l)∧l≤k∧(∀i,i < l→Le O key (at' b (lo+i)) (at' b (lo+k)))∧(∀i,l≤i→i < k→Le O key (at' b (lo+k)) (at' b (lo+i)))) ?t1 ?t2 ⟨rfl,0,k,rfl,by exact Nat.zero_le _,by exact dw _,by(solve_by_elim (maxDepth:=3) only[*,gG,i7,sm,g7,Nat.add_le_add_left,Nat.add_lt_add_left,lB,Nat.lt_of_succ_lt]),fun i hi=>by lia,fun i h1 h2=>by lia⟩) ?t3)
  case t2=>
   rintro c st' ⟨rfl,l,r,rfl,p1,p2,p3,p4,p5⟩
   have:l=r:=by lia
   subst this
   exact⟨rfl,l,rfl,p2,p4,p5⟩
  case t1=>
   rintro x c st' - x2 ⟨rfl,l,r,rfl,p1,p2,p3,p4,p5⟩
   dsimp only
   refine fA (fun z=>?_) (fun z=>?_)
   ·have:l=r:=by exact Nat.le_antisymm ‹_› ‹_›
    subst this
    exact wpS_pure ⟨rfl,l,rfl,p2,p4,p5⟩
   ·have im:lo+(l+r) / 2 < b.size:=by lia
    refine wpS_bind (ju C (sb.dom da) ik im ?_)
    cases e:O.blt (key (at' b (lo+k))) (key (at' b (lo+(l+r) / 2)))with
    |true=>exact wpS_pure ⟨rfl,l,(l+r) / 2,rfl,by lia,by lia,by lia,p4,fun i r1 r2=>(Le.of e).trans (ss.le (by exact lB _ _) (by exact Nat.add_le_add_left ‹_› _) (by exact Nat.add_lt_add_left ‹_› _))⟩
    |false=>exact wpS_pure ⟨rfl,(l+r) / 2+1,r,rfl,by lia,by assumption,by lia,fun i r1=>(ss.le (by exact lB _ _) (by lia) (by lia):Le O key (at' b (lo+i)) (at' b (lo+(l+r) / 2))).trans e,p5⟩
  case t3=>
   rintro c st' ⟨rfl,l,rfl,p2,p4,p5⟩
   refine wpS_bind (zZ (wpS_pure ⟨rfl,_,rfl,sb.trans (Sx.bub (k:=lo+k) (n:=lo+k - (lo+l)) ik (by exact Nat.sub_le _ _) (by lia) (by exact Nat.add_lt_add_left ‹_› _)),fun i j r1 r2 r3=>?_⟩))
   have q4:∀i,lo≤i→i < lo+l→Le O key (at' b i) (at' b (lo+k)):=fun i u1 u2=>by have:=p4 (i - lo) (by exact Nat.sub_lt_left_of_lt_add ‹_› ‹_›);rwa [show lo+(i - lo)=i by exact Nat.add_sub_of_le ‹_›]at this
   have q5:∀i,lo+l≤i→i < lo+k→Le O key (at' b (lo+k)) (at' b i):=fun i u1 u2=>by have:=p5 (i - lo) (by exact Nat.le_sub_of_add_le' ‹_›) (by lia);rwa [show lo+(i - lo)=i by exact Nat.add_sub_of_le (gG (lB _ _) ‹_›)]at this
   show Le O key (at' (bubble b (lo+k) (lo+k - (lo+l))) i) (at' (bubble b (lo+k) (lo+k - (lo+l))) j)
   rw[qz ik (by exact Nat.sub_le _ _),qz ik (by exact Nat.sub_le _ _),show lo+k - (lo+k - (lo+l))=lo+l by lia]
   repeat' split
   all_goals first
    |(exfalso;lia)
    |exact q4 _ (by assumption) (by(first |exact Nat.lt_of_lt_of_eq ‹_› ‹_› |lia))
    |exact q5 _ (by(first |exact Nat.add_le_add_left ‹_› _ |lia)) (by lia)
    |exact ss _ _ (by(first |assumption |lia)) (by(first |assumption |lia)) (by lia)
theorem qA(C:Cmp prog w A s κ O key dom){lo nrem:Nat}{Q:Option Nat→SortSt→Prop}(da:∀x∈a.toList,dom x)(h1:1≤nrem)(hz:lo+nrem≤a.size)
  (h:∀m b,1≤m→m≤nrem→Sx a b lo (lo+nrem)→So O key b lo (lo+m)→Q (some m) (SortSt.mk' κ b pd g none)):wpS (model prog w) A E s (countRun' lo nrem) Q (SortSt.mk' κ a pd g none):=by
 refine wpS_bind (yH (O:=O) (key:=key) (a:=a) (lo:=lo) (n0:=1) (nrem:=nrem) (dw _) h1 (fun i j r1 r2 r3=>by lia) (fun x n R n1 n2 hR=>?_) fun n q1 q2 q3 q4=>?_)
 ·refine wpS_bind (ju C da (show lo+n < a.size by lia) (show lo+n - 1 < a.size by lia) ?_)
  cases e:O.blt (key (at' a (lo+n))) (key (at' a (lo+n - 1)))with
  |true=>rw[e]at hR;exact wpS_pure hR
  |false=>rw[e]at hR;exact wpS_pure hR
 dsimp -zeta only
 by_cases z:(n == nrem)=true
 ·exact aN z (wpS_pure (h n a q1 q2 .refl q3))
 refine aI z ?_
 have z':n < nrem:=by simp at z;exact Nat.lt_of_le_of_ne ‹_› ‹_›
 have sn:=q4 z'
 extract_lets
 rename Unit→_=>jp
 have J:∀b,Sx a b lo (lo+nrem)→Dn O key b lo (lo+n+1)→wpS (model prog w) A E s (jp ()) Q (SortSt.mk' κ b pd g none):=by
  intro b sb db
  refine wpS_bind (wpS_lift (wpAny_rule ⟨rfl,?_⟩))
  refine wpS_bind (wpS_mono (wpS_forRange (I:=fun x c st'=>∃b q,st'=SortSt.mk' κ b pd g none∧Sx a b lo (lo+nrem)∧c=(none,x,q)∧q+1≤x∧n+1≤x∧Dn O key b lo (lo+x)∧Eqs O key b (lo+x) q)
   (Q:=fun c st'=>∃b m q,st'=SortSt.mk' κ b pd g none∧Sx a b lo (lo+nrem)∧c=(none,m,q)∧q+1≤m∧m≤nrem∧Dn O key b lo (lo+m)∧Eqs O key b (lo+m) q) ?s1 ?s2 ⟨b,0,rfl,sb,rfl,by exact n_ ‹_›,by exact Nat.lt_succ_self _,db,Eqs.one⟩) ?s3)
  case s2=>
   rintro c st' ⟨b,q,rfl,sb,rfl,p1,p2,p3,p4⟩
   rw[show max (n+1) nrem=nrem by exact Nat.max_eq_right ‹_›]at *
   exact⟨b,nrem,q,rfl,sb,rfl,p1,dw _,p3,p4⟩
  case s1=>
   rintro x c st' x1 x2 ⟨b,q,rfl,sb,rfl,p1,p2,p3,p4⟩
   have bz:=sb.size
   have i1:lo+x < b.size:=by lia
   have i2:lo+x - 1 < b.size:=by exact sm (Nat.sub_le _ _) ‹_›
   refine wpS_bind (ju C (sb.dom da) i1 i2 ?_)
   cases e:O.blt (key (at' b (lo+x))) (key (at' b (lo+x - 1)))with
   |true=>
    dsimp only
    rw[if_pos rfl]
    refine fA (fun z=>?_) (fun z=>?_)
    ·refine wpS_bind (rO (wpS_pure ⟨_,0,rfl,sb.trans (Sx.rev (by lia) (by lia) (by exact g7 ‹_›)),rfl,by exact Nat.le_add_left _ _,by exact n_ ‹_›,?_,Eqs.one⟩))
     refine(p3.rev p4 (by exact g7 ‹_›) (by exact Nat.add_lt_add_left ‹_› _)).step (by lia) ?_
     rw[fV (by exact g7 ‹_›),fV (by exact g7 ‹_›),if_neg (by lia),if_pos (by lia)]
     exact(Le.of e).trans (p4 _ (by lia) (by lia)).2
    ·exact wpS_pure ⟨b,0,rfl,sb,rfl,by exact Nat.le_add_left _ _,by exact n_ ‹_›,p3.step (by lia) (Le.of e),Eqs.one⟩
   |false=>
    dsimp only
    rw[if_neg (by simp)]
    refine wpS_bind (ju C (sb.dom da) i2 i1 ?_)
    cases e':O.blt (key (at' b (lo+x - 1))) (key (at' b (lo+x)))with
    |true=>exact wpS_pure ⟨b,x,q,rfl,sb,rfl,p1,by exact g7 ‹_›,p3,p4⟩
    |false=>
     refine wpS_pure ⟨b,q+1,rfl,sb,rfl,by exact Nat.succ_lt_succ ‹_›,by exact n_ ‹_›,p3.step (by lia) e',fun i r1 r2=>?_⟩
     show Le O key (at' b i) (at' b (lo+x))∧Le O key (at' b (lo+x)) (at' b i)
     by_cases c:i=lo+x
     ·rw[c];exact⟨Le.refl _,Le.refl _⟩
     ·obtain⟨u1,u2⟩:=p4 i (by lia) (by lia)
      exact⟨u1.trans e,Le.trans e' u2⟩
  case s3=>
   rintro c st' ⟨b,m,q,rfl,sb,rfl,p1,p2,p3,p4⟩
   have bz:=sb.size
   dsimp -zeta only
   extract_lets
   rename Unit→_=>jp2
   have J2:∀b,Sx a b lo (lo+nrem)→Dn O key b lo (lo+m)→wpS (model prog w) A E s (jp2 ()) Q (SortSt.mk' κ b pd g none):=by
    intro b sb db
    have bz:=sb.size
    refine wpS_bind (rO ?_)
    have sc:=sb.trans (Sx.rev (a:=b) (i:=lo) (j:=lo+m) (dw lo) (show lo+m≤lo+nrem by exact Nat.add_le_add_left ‹_› _) (by lia))
    have cz:=sc.size
    have ss:=db.flip (by lia)
    revert sc cz ss
    generalize mirror b lo (lo+m) ((lo+m - lo) / 2)=c
    intro sc cz ss
    refine wpS_bind (yH (O:=O) (key:=key) (a:=c) (lo:=lo) (n0:=m) (nrem:=nrem) (by exact gG (Nat.le_add_left _ _) ‹_›) p2 ss (fun x n R n1 n2 hR=>?_) fun n q1 q2 q3 q4=>?_)
    ·refine wpS_bind (ju C (sc.dom da) (show lo+n < c.size by lia) (show lo+n - 1 < c.size by lia) ?_)
     cases e:O.blt (key (at' c (lo+n))) (key (at' c (lo+n - 1)))with
     |true=>rw[e]at hR;exact wpS_pure hR
     |false=>rw[e]at hR;exact wpS_pure hR
    ·exact wpS_pure (h n c (by lia) q2 sc q3)
   clear_value jp2
   refine fA (fun z=>?_) (fun z=>?_)
   ·exact wpS_bind (rO (J2 _ (sb.trans (Sx.rev (a:=b) (i:=lo+m - (q+1)) (j:=lo+m) (by lia) (by exact Nat.add_le_add_left ‹_› _) (by lia))) (Dn.rev (hi:=lo+m) (q:=q) p3 p4 (by lia) (by exact Nat.add_lt_add_left ‹_› _))))
   ·exact J2 b sb p3
 clear_value jp
 refine fA (fun c=>?_) (fun c=>?_)
 ·refine wpS_bind (ju C da (show lo < a.size by lia) (show lo+n - 1 < a.size by lia) ?_)
  cases e:O.blt (key (at' a lo)) (key (at' a (lo+n - 1)))with
  |true=>exact wpS_pure (h n a q1 q2 .refl q3)
  |false=>
   refine wpS_bind (rO (J _ (Sx.rev (dw _) (by exact Nat.add_le_add_left ‹_› _) (by lia)) fun i j r1 r2 r3=>?_))
   have all:∀x y,lo≤x→x < lo+n→lo≤y→y < lo+n→Le O key (at' a x) (at' a y):=fun x y x1 x2 y1 y2=>
    ((q3.le x1 (by lia) (by lia):Le O key (at' a x) (at' a (lo+n - 1))).trans e).trans (q3.le (dw _) y1 y2)
   rw[fV (by lia),fV (by lia),if_pos (show lo≤i∧i < lo+n by lia)]
   by_cases c':j < lo+n
   ·rw[if_pos (by lia)]
    exact all _ _ (by lia) (by lia) (by lia) (by lia)
   ·rw[if_neg (by exact fun h=>‹¬_› h.2),show j=lo+n by lia]
    exact(Le.of sn).trans (all _ _ (by lia) (by lia) (by lia) (by lia))
 ·refine J a .refl fun i j r1 r2 r3=>?_
  rw[show i=lo+n - 1 by lia,show j=lo+n by lia]
  exact Le.of sn
end
end NhLS
namespace NhLS
set_option autoImplicit false
open PySem PyProof.Rows
def Ch(O:KeyOrd)(key:Keyed→O.α)(a:Array Keyed):List (Nat×Nat×Nat)→Nat→Nat→Prop
 |[],p,e=>p=e
 |t::l,p,e=>t.1=p∧1≤t.2.1∧So O key a p (p+t.2.1)∧Ch O key a l (p+t.2.1) e
section
variable {O:KeyOrd} {key:Keyed→O.α} {a b:Array Keyed}
theorem Ch.app:∀{l l':List (Nat×Nat×Nat)} {p e:Nat},Ch O key a (l++l') p e→∃m,Ch O key a l p m∧Ch O key a l' m e
 |[],_,p,e,h=>⟨p,rfl,h⟩
 |t::l,_,p,e,h=>by
  obtain⟨m,h1,h2⟩:=Ch.app h.2.2.2
  exact⟨m,⟨h.1,h.2.1,h.2.2.1,h1⟩,h2⟩
theorem Ch.join:∀{l l':List (Nat×Nat×Nat)} {p m e:Nat},Ch O key a l p m→Ch O key a l' m e→Ch O key a (l++l') p e
 |[],_,p,m,e,h1,h2=>by rw[show p=m from h1];exact h2
 |t::l,_,p,m,e,h1,h2=>⟨h1.1,h1.2.1,h1.2.2.1,Ch.join h1.2.2.2 h2⟩
theorem Ch.le:∀{l:List (Nat×Nat×Nat)} {p e:Nat},Ch O key a l p e→p+l.length≤e
 |[],p,e,h=>by rw[show p=e from h];exact dw _
 |t::l,p,e,h=>by
  have:=Ch.le h.2.2.2
  have:=h.2.1
  rw[List.length_cons]
  lia
theorem Ch.ext:∀{l:List (Nat×Nat×Nat)} {p e:Nat},Ch O key a l p e→(∀j,p≤j→j < e→at' b j=at' a j)→Ch O key b l p e
 |[],p,e,h,_=>h
 |t::l,p,e,h,q=>by
  have:=Ch.le h.2.2.2
  exact⟨h.1,h.2.1,h.2.2.1.ext fun j h1 h2=>q j h1 (by lia),Ch.ext h.2.2.2 fun j h1 h2=>q j (by exact gG (lB _ _) ‹_›) h2⟩
theorem Ch.map:∀{l l':List (Nat×Nat×Nat)} {p e:Nat},Ch O key a l p e→l'.map (fun t=>(t.1,t.2.1))=l.map (fun t=>(t.1,t.2.1))→Ch O key a l' p e
 |[],l',p,e,h,q=>by
  cases l' with
  |nil=>exact h
  |cons _ _=>simp at q
 |t::l,l',p,e,h,q=>by
  cases l' with
  |nil=>simp at q
  |cons t' l'=>
   simp only[c9,List.cons.injEq,Prod.mk.injEq]at q
   refine⟨q.1.1.trans h.1,by rw[q.1.2];exact h.2.1,by rw[q.1.2];exact h.2.2.1,?_⟩
   rw[q.1.2]
   exact Ch.map h.2.2.2 q.2
theorem xx(f:Nat×Nat×Nat→Nat×Nat×Nat)(hf:∀t,(f t).1=t.1∧(f t).2.1=t.2.1)(l:List (Nat×Nat×Nat))(k:Nat):(l.modify k f).map (fun t=>(t.1,t.2.1))=l.map (fun t=>(t.1,t.2.1)):=by
 refine List.ext_getElem? fun j=>?_
 rw[qT,qT,List.getElem?_modify]
 cases l[j]? with
 |none=>rfl
 |some t=>
  by_cases e:k=j
  ·simp[e,hf t]
  ·simp[e]
theorem Ch.one{p n w:Nat}(h:So O key a p (p+n))(h1:1≤n):Ch O key a [(p,n,w)] p (p+n):=⟨rfl,h1,h,rfl⟩
end
section
variable {prog:Program} {w:World} {A:Around} {E:Value→Shared→Prop} {s:Shared} {κ:SortKind} {O:KeyOrd} {key:Keyed→O.α} {dom:Keyed→Prop} {a:Array Keyed} {pd:Array (Nat×Nat×Nat)} {g:Nat}
theorem mw(C:Cmp prog w A s κ O key dom){i lo:Nat}{Q:Bool→SortSt→Prop}(da:∀x∈a.toList,dom x)(hi:i+1 < pd.size)(hz:lo≤a.size)(hc:Ch O key a pd.toList 0 lo)
  (h:∀b pd' g',b.toList.Perm a.toList→(∀j,lo≤j→at' b j=at' a j)→Ch O key b pd'.toList 0 lo→pd'.size+1=pd.size→Q true (SortSt.mk' κ b pd' g' none)):wpS (model prog w) A E s (mergeAt' i) Q (SortSt.mk' κ a pd g none):=by
 have el:pd.toList=pd.toList.take i++(pd[i]::pd[i+1]::pd.toList.drop (i+2)):=by
  conv=>lhs;rw[←List.take_append_drop i pd.toList]
  congr 1
  rw[List.drop_eq_getElem_cons (by simp;exact Nat.lt_of_succ_lt ‹_›),List.drop_eq_getElem_cons (by simp;assumption)]
  simp
 have e1:pd[i]? =some pd[i]:=getElem?_pos ..
 have e2:pd[i+1]? =some pd[i+1]:=getElem?_pos ..
 revert el e1 e2
 generalize pd[i]=t1
 generalize pd[i+1]=t2
 intro el e1 e2
 obtain⟨sa,na,w1⟩:=t1
 obtain⟨sb,nb,w2⟩:=t2
 have li:(pd.toList.take i).length=i:=by simp;lia
 revert el li
 generalize pd.toList.take i=pre
 generalize pd.toList.drop (i+2)=post
 intro el li
 rw[el]at hc
 obtain⟨m,c1,c2⟩:=hc.app
 obtain⟨u1,u2,u3,v1,v2,v3,c3⟩:=c2
 simp only at u1 u2 u3 v1 v2 v3 c3
 subst u1
 subst v1
 have le3:=c3.le
 refine tJ C (fun i hi=>da _ (ip hi)) e1 e2 u2 v2 (by lia) u3 v3 fun b g' pb ob sb=>h b _ g' pb (fun j hj=>ob j (.inr (by lia))) ?_ ?_
 ·have:((pd.setIfInBounds i (sa,na+nb,w1)).eraseIdxIfInBounds (i+1)).toList=pre++((sa,na+nb,w1)::post):=by
   have hs:i+1 < (pd.setIfInBounds i (sa,na+nb,w1)).size:=by simpa using hi
   rw[Array.eraseIdxIfInBounds,dif_pos hs,Array.toList_eraseIdx,Array.toList_setIfInBounds,el]
   subst li
   simp[List.eraseIdx_append_of_length_le]
  rw[this]
  refine(c1.ext fun j _ hj=>ob j (.inl hj)).join ⟨rfl,by show 1≤na+nb;exact Nat.lt_add_right _ ‹_›,by rw[←Nat.add_assoc];exact sb,?_⟩
  show Ch O key b post (sa+(na+nb)) lo
  rw[←Nat.add_assoc]
  exact c3.ext fun j hj _=>ob j (.inr hj)
 ·have hs:i+1 < (pd.setIfInBounds i (sa,na+nb,w1)).size:=by simpa using hi
  rw[Array.eraseIdxIfInBounds,dif_pos hs,Array.size_eraseIdx]
  simp
  lia
theorem vq{c:Prop}[Decidable c]{x y:Nat}{Q:Bool→SortSt→Prop}{st:SortSt}(h:∀i,i=x∨i=y→wpS (model prog w) A E s (mergeAt' i) Q st):wpS (model prog w) A E s (mergeAt' (if c then x else y)) Q st:=by
 split
 ·exact h _ (.inl rfl)
 ·exact h _ (.inr rfl)
theorem qB(C:Cmp prog w A s κ O key dom){Q:Unit→SortSt→Prop}(da:∀x∈a.toList,dom x)(h:∀b pd' g',b.toList.Perm a.toList→So O key b 0 a.size→Q () (SortSt.mk' κ b pd' g' none)):wpS (model prog w) A E s sortRuns' Q (SortSt.mk' κ a #[] g none):=by
 refine wpS_bind (wpS_get ?_)
 refine wpS_bind (wpS_mono (wpS_forRange (I:=fun x c st'=>∃b lo pd g,st'=SortSt.mk' κ b pd g none∧b.toList.Perm a.toList∧c=(none,lo)∧lo≤a.size∧(x≤lo∨lo=a.size)∧Ch O key b pd.toList 0 lo)
  (Q:=fun c st'=>∃b pd g,st'=SortSt.mk' κ b pd g none∧b.toList.Perm a.toList∧c=(none,a.size)∧Ch O key b pd.toList 0 a.size) ?s1 ?s2 ⟨a,0,#[],g,rfl,List.Perm.refl _,rfl,by exact Nat.zero_le _,by(solve_by_elim (maxDepth:=3) only[*,gG,i7,sm,g7]),rfl⟩) ?s3)
 case s2=>
  rintro c st' ⟨b,lo,pd,g,rfl,p1,rfl,p2,p3,p4⟩
  have:lo=a.size:=by
   rcases p3 with p3 |p3
   ·have p3':max 0 a.size≤lo:=p3
    exact Nat.le_antisymm ‹_› ‹_›
   ·exact p3
  subst this
  exact⟨b,pd,g,rfl,p1,rfl,p4⟩
 case s1=>
  rintro x c st' - x2 ⟨b,lo,pd,g,rfl,p1,rfl,p2,p3,p4⟩
  have bz:b.size=a.size:=by have:=p1.length_eq;simpa using this
  refine zX fun R hR=>?_
  have Rd:∀b pd g,b.toList.Perm a.toList→Ch O key b pd.toList 0 a.size→R (.done (none,a.size)) (SortSt.mk' κ b pd g none):=fun b pd g q1 q2=>by rw[hR];exact⟨b,pd,g,rfl,q1,rfl,q2⟩
  have Ry:∀b lo pd g,b.toList.Perm a.toList→lo≤a.size→(x+1≤lo∨lo=a.size)→Ch O key b pd.toList 0 lo→R (.yield (none,lo)) (SortSt.mk' κ b pd g none):=fun b lo pd g q1 q2 q3 q4=>by rw[hR];exact⟨b,lo,pd,g,rfl,q1,rfl,q2,q3,q4⟩
  clear hR
  dsimp -zeta only
  extract_lets
  refine fA (fun z=>?_) (fun z=>?_)
  ·have:lo=a.size:=by exact Nat.le_antisymm ‹_› ‹_›
   subst this
   exact wpS_pure (Rd b pd g p1 p4)
  have z':lo < a.size:=by exact Nat.lt_of_not_le ‹_›
  refine wpS_bind (qA C (fun x hx=>da x (p1.mem_iff.mp hx)) (lo:=lo) (nrem:=a.size - lo) (by exact Nat.sub_pos_of_lt ‹_›) (by lia) fun n c n1 n2 sc ss=>?_)
  dsimp -zeta only
  extract_lets
  rename Unit→Nat→_=>jp
  have J:∀(n:Nat) (c:Array Keyed),1≤n→n≤a.size - lo→Sx b c lo (lo+(a.size - lo))→So O key c lo (lo+n)→wpS (model prog w) A E s (jp () n) R (SortSt.mk' κ c pd g none):=by
   intro n c n1 n2 sc ss
   have cp:c.toList.Perm a.toList:=sc.perm.trans p1
   have ch:Ch O key c pd.toList 0 lo:=p4.ext fun j _ hj=>sc.out j (.inl hj)
   refine wpS_bind (wpS_get ?_)
   dsimp -zeta only
   extract_lets
   rename Unit→_=>jq
   have K:∀c pd g,c.toList.Perm a.toList→Ch O key c pd.toList 0 lo→So O key c lo (lo+n)→wpS (model prog w) A E s (jq ()) R (SortSt.mk' κ c pd g none):=by
    intro c pd g cp ch ss
    refine wpS_bind (wpS_modify (wpS_pure (Ry c (lo+n) (pd.push (lo,n,0)) g cp (by lia) (by lia) ?_)))
    rw[Array.toList_push]
    exact ch.join (Ch.one ss n1)
   clear_value jq
   cases eb:pd.back? with
   |none=>exact K c pd g cp ch ss
   |some t=>
    dsimp -zeta only
    refine wpS_bind (wpS_mono (wpS_forRange (I:=fun x r st'=>r=(none,())∧∃c pd g,st'=SortSt.mk' κ c pd g none∧c.toList.Perm a.toList∧Ch O key c pd.toList 0 lo∧So O key c lo (lo+n))
     (Q:=fun r st'=>r=(none,())∧∃c pd g,st'=SortSt.mk' κ c pd g none∧c.toList.Perm a.toList∧Ch O key c pd.toList 0 lo∧So O key c lo (lo+n)) ?t1 (fun _ _ q=>q) ⟨rfl,c,pd,g,rfl,cp,ch,ss⟩) ?t3)
    case t3=>
     rintro r st' ⟨rfl,c,pd,g,rfl,cp,ch,ss⟩
     refine wpS_bind (wpS_modify (K c _ g cp (ch.map ?_) ss))
     rw[Array.toList_modify]
     refine xx _ ?_ _ _
     exact fun _=>⟨rfl,rfl⟩
    case t1=>
     rintro y r st' - - ⟨rfl,c,pd,g,rfl,cp,ch,ss⟩
     refine wpS_bind (wpS_get ?_)
     dsimp only
     by_cases pz:pd.size > 1
     ·rw[if_pos pz,getElem?_pos pd (pd.size - 2) (by lia)]
      refine fA (fun _=>?_) (fun _=>?_)
      ·exact wpS_pure ⟨rfl,c,pd,g,rfl,cp,ch,ss⟩
      ·have cz:c.size=a.size:=by have:=cp.length_eq;simpa using this
       refine wpS_bind (mw C (fun x hx=>da x (cp.mem_iff.mp hx)) (i:=pd.size - 2) (lo:=lo) (by lia) (by lia) ch fun d pd' g' dp od dc _=>?_)
       exact wpS_pure ⟨rfl,d,pd',g',rfl,dp.trans cp,dc,ss.ext fun j j1 _=>od j j1⟩
     ·rw[if_neg pz]
      exact wpS_pure ⟨rfl,c,pd,g,rfl,cp,ch,ss⟩
  clear_value jp
  refine fA (fun y=>?_) (fun y=>?_)
  ·refine wpS_bind (wpS_lift (wpAny_rule ⟨rfl,?_⟩))
   have cz:=sc.size
   refine wpS_bind (nM C (a:=c) (lo:=lo) (n:=min (a.size - lo) (minRun' a.size a.size 0)) (ok:=n) (fun x hx=>da x (p1.mem_iff.mp (sc.perm.mem_iff.mp hx))) n1 (by have y':n < minRun' a.size a.size 0:=y;lia) (by lia) ss fun d sd ds=>?_)
   refine aI (by simp) ?_
   exact J _ d (by have y':n < minRun' a.size a.size 0:=y;lia) (by lia) (sc.trans ⟨sd.perm,fun j hj=>sd.out j (by lia)⟩) ds
  ·exact J n c n1 n2 sc ss
 case s3=>
  rintro c st' ⟨b,pd,g,rfl,p1,rfl,p2⟩
  refine wpS_bind (wpS_mono (wpS_forRange (I:=fun x r st'=>r=(none,())∧∃c pd g,st'=SortSt.mk' κ c pd g none∧c.toList.Perm a.toList∧Ch O key c pd.toList 0 a.size∧(pd.size+x≤a.size∨pd.size≤1))
   (Q:=fun r st'=>r=(none,())∧∃c pd g,st'=SortSt.mk' κ c pd g none∧c.toList.Perm a.toList∧Ch O key c pd.toList 0 a.size∧pd.size≤1) ?t1 ?t2 ⟨rfl,b,pd,g,rfl,p1,p2,.inl (by have:=p2.le;simp at this;assumption)⟩) ?t3)
  case t2=>
   rintro r st' ⟨rfl,c,pd,g,rfl,cp,ch,hz⟩
   refine⟨rfl,c,pd,g,rfl,cp,ch,?_⟩
   rcases hz with hz |hz
   ·have hz':pd.size+max 0 a.size≤a.size:=hz
    lia
   ·exact hz
  case t1=>
   rintro y r st' - - ⟨rfl,c,pd,g,rfl,cp,ch,hz⟩
   refine wpS_bind (wpS_get ?_)
   refine fA (fun z=>?_) (fun z=>?_)
   ·exact wpS_pure ⟨rfl,c,pd,g,rfl,cp,ch,z⟩
   ·have z':1 < pd.size:=Nat.lt_of_not_le z
    have cz:c.size=a.size:=by have:=cp.length_eq;simpa using this
    extract_lets
    refine wpS_bind (vq fun i hi=>?_)
    refine mw C (fun x hx=>da x (cp.mem_iff.mp hx)) (i:=i) (lo:=a.size) ?_ (by exact Nat.le_of_eq (Eq.symm ‹_›)) ch fun d pd' g' dp od dc dz=>?_
    ·rcases hi with rfl |rfl
     ·show pd.size - 2 - 1+1 < pd.size
      lia
     ·show pd.size - 2+1 < pd.size
      lia
    ·exact wpS_pure ⟨rfl,d,pd',g',rfl,dp.trans cp,dc,by lia⟩
  case t3=>
   rintro r st' ⟨rfl,c,pd,g,rfl,cp,ch,hz⟩
   refine wpS_pure (h c pd g cp ?_)
   obtain⟨l⟩:=pd
   match l,hz,ch with
   |[],_,ch=>
    have:0=a.size:=ch
    rw[←this]
    exact fun i j _ _ q=>by lia
   |[t],_,ch=>
    obtain⟨_,_,s1,e⟩:=ch
    have e':0+t.2.1=a.size:=e
    rw[e']at s1
    exact s1
   |_::_::_,hz,_=>simp at hz
end
end NhLS
namespace NhSG
set_option autoImplicit false
open PySem PyProof PyProof.Rows PySem.W
abbrev Ky:=Int×List Nat
def eN(a b:Ky):Bool:=decide (a.1 < b.1)||(decide (a.1=b.1)&&decide (a.2 < b.2))
theorem ltKy_iff{a b:Ky}:eN a b=true↔a.1 < b.1∨(a.1=b.1∧a.2 < b.2):=by simp[eN]
theorem nN{a b:Ky}:eN a b=false↔¬(a.1 < b.1∨(a.1=b.1∧a.2 < b.2)):=by rw[←ltKy_iff];simp
def kN(hp:Heap):Value→Option Ky
 |.ref a=>(hp.get? a).bind fun o=>match o.data with
  |.seq xs _=>match xs.toList with
   |[.int n _,.str z _]=>some (n,z.cps.toList)
   |_=>none
  |_=>none
 |_=>none
theorem xy{hp:Heap}{a:Addr}{o:Obj}{xs:Array Value}{k:Nat}{n:Int}{t u:Tok}{z:Str}(ho:hp.get? a=some o)(hd:o.data=.seq xs k)(hx:xs.toList=[.int n t,.str z u]):kN hp (.ref a)=some (n,z.cps.toList):=by
 simp[kN,ho,hd,hx]
theorem rP{hp:Heap}{v:Value}{y:Ky}(h:kN hp v=some y):∃a o xs k t z u,v=.ref a∧hp.get? a=some o∧o.data=.seq xs k∧xs.toList=[.int y.1 t,.str z u]∧y.2=z.cps.toList:=by
 unfold kN at h
 split at h
 ·rename_i a
  obtain⟨o,ho,h⟩:=Za.mp h
  split at h
  ·rename_i xs k hd
   split at h
   ·rename_i n t z u hx
    cases h
    exact⟨a,o,xs,k,t,z,u,rfl,ho,hd,hx,rfl⟩
   ·cases h
  ·cases h
 ·cases h
@[reducible] def dR (hp:Heap):PyProof.Rows.KeyKind where
 α:=Ky
 blt:=eN
 irrefl a:=by
  rw[nN]
  rintro(h |h)
  ·omega
  ·exact List.lt_irrefl _ h.2
 trans a b c h1 h2:=by
  rw[ltKy_iff]at *
  rcases h1 with h1 |h1
  ·rcases h2 with h2 |h2
   ·exact .inl (by omega)
   ·exact .inl (by omega)
  ·rcases h2 with h2 |h2
   ·exact .inl (by omega)
   ·exact .inr ⟨by omega,List.lt_trans h1.2 h2.2⟩
 negTrans a b c h:=by
  rw[ltKy_iff]at *
  rw[ltKy_iff]
  by_cases hab:a.1 < b.1
  ·exact .inl (.inl hab)
  ·by_cases hbc:b.1 < c.1
   ·exact .inr (.inl hbc)
   ·have e:a.1=c.1∧a.2 < c.2:=by
     rcases h with h |h
     ·omega
     ·exact h
    by_cases hab2:a.2 < b.2
    ·exact .inl (.inr ⟨by omega,hab2⟩)
    ·exact .inr (.inr ⟨by omega,List.lt_of_le_of_lt (List.not_lt.mp hab2) e.2⟩)
 total a b h1 h2:=by
  rw[nN]at *
  have e:a.1=b.1:=by
   have n1:¬a.1 < b.1:=fun z=>h1 (.inl z)
   have n2:¬b.1 < a.1:=fun z=>h2 (.inl z)
   omega
  have e2:a.2=b.2:=List.le_antisymm (List.not_lt.mp fun z=>h2 (.inr ⟨e.symm,z⟩)) (List.not_lt.mp fun z=>h1 (.inr ⟨e,z⟩))
  exact Prod.ext e e2
 keyOf:=kN hp
 dflt:=(0,[])
def CY(prog:Program)(w:World)(A:Around)(κ:PyProof.Rows.KeyKind)(kd:SortKind)(s:Shared):Prop:=
 ∀(E:Value→Shared→Prop) (x y:Value) (a b:κ.α) {Q:Bool→Shared→Prop},κ.keyOf x=some a→κ.keyOf y=some b→Q (κ.blt a b) s→wpAny (model prog w) A (keyLt' kd x y) Q E s
theorem xz{prog:Program}{w:World}{A:Around}{s:Shared}:CY prog w A (dR s.heap) (tuples' true) s:=fun E x y a b Q ha hb hq=>by
 obtain⟨ax,ox,xs,kx,tx,zx,ux,rfl,hox,hdx,hxx,ea⟩:=rP ha
 obtain⟨ay,oy,ys,ky,ty,zy,uy,rfl,hoy,hdy,hyy,eb⟩:=rP hb
 refine kat_lt hox hdx hoy hdy ?_
 have fin:decide (xs.size < ys.size)=false:=by
  have l1:xs.size=2:=by rw[←pT,hxx];rfl
  have l2:ys.size=2:=by rw[←pT,hyy];rfl
  rw[l1,l2]
  rfl
 rw[hxx,hyy,fin]
 show KatLex prog w A true false Q [(.int a.1 tx,.int b.1 ty),(.str zx ux,.str zy uy)] 0 s
 refine kat_cons (wpAny_eqBool_int (kat_go (fun e1=>kat_yes (kat_cons (wpAny_eqBool_str (kat_go (fun e2=>kat_yes (kat_nil ?_)) (fun e2=>kat_no ?_))))) (fun e1=>kat_no ?_)))
 ·have e1:a.1=b.1:=by simpa using e1
  have e2:zx=zy:=by simpa using e2
  have:eN a b=false:=by
   rw[nN,ea,eb,e2]
   rintro(z |z)
   ·omega
   ·exact List.lt_irrefl _ z.2
  rw[←this]
  exact hq
 ·have e1:a.1=b.1:=by simpa using e1
  show wpAny (model prog w) A (oneLt' false (.str zx ux) (.str zy uy)) Q _ s
  refine kat_one _ _ (PySem.P.lt_str ?_)
  have:eN a b=decide (zx.cps.toList < zy.cps.toList):=by
   unfold eN
   rw[←ea,←eb]
   simp[e1]
  have hq':Q (eN a b) s:=hq
  rw[this]at hq'
  exact hq'
 ·have e1:¬a.1=b.1:=by simpa using e1
  show wpAny (model prog w) A (oneLt' true (.int a.1 tx) (.int b.1 ty)) Q _ s
  refine oneLt_int ?_
  have:eN a b=decide (a.1 < b.1):=by
   unfold eN
   simp[e1]
  have hq':Q (eN a b) s:=hq
  rw[this]at hq'
  exact hq'
end NhSG
namespace NhSG
set_option autoImplicit false
open PySem PyProof PyProof.Rows PySem.W
def Keep(h h':Heap):Prop:=∀b o,h.get? b=some o→h'.get? b=some o
theorem Keep.refl(h:Heap):Keep h h:=fun _ _ e=>e
theorem Keep.trans{h h1 h2:Heap}(a:Keep h h1)(b:Keep h1 h2):Keep h h2:=fun c o e=>b c o (a c o e)
def IsKy(hp:Heap)(v:Value)(y:Ky):Prop:=∃c o xs k t z u,v=.ref c∧hp.get? c=some o∧o.cls=.type "tuple"∧o.data=.seq xs k∧xs.toList=[.int y.1 t,.str z u]∧y.2=z.cps.toList
theorem IsKy.keep{h h':Heap}{v:Value}{y:Ky}(a:IsKy h v y)(k:Keep h h'):IsKy h' v y:=by
 obtain⟨c,o,xs,n,t,z,u,e,ho,r⟩:=a
 exact⟨c,o,xs,n,t,z,u,e,k c o ho,r⟩
theorem IsKy.key{h:Heap}{v:Value}{y:Ky}(a:IsKy h v y):kN h v=some y:=by
 obtain⟨c,o,xs,n,t,z,u,rfl,ho,hc,hd,hx,e⟩:=a
 rw[xy ho hd hx,←e]
def KA(hp:Heap):List Value→List Ky→Prop
 |[],[]=>True
 |v::vs,y::ys=>IsKy hp v y∧KA hp vs ys
 |_,_=>False
theorem KA.keep{h h':Heap}(k:Keep h h'):∀{vs:List Value} {ys:List Ky},KA h vs ys→KA h' vs ys
 |[],[],_=>trivial
 |v::vs,y::ys,a=>⟨a.1.keep k,KA.keep k a.2⟩
 |[],_::_,a=>a.elim
 |_::_,[],a=>a.elim
theorem KA.len{h:Heap}:∀{vs:List Value} {ys:List Ky},KA h vs ys→vs.length=ys.length
 |[],[],_=>rfl
 |v::vs,y::ys,a=>by simp[KA.len a.2]
 |[],_::_,a=>a.elim
 |_::_,[],a=>a.elim
theorem KA.snoc{h:Heap}{v:Value}{y:Ky}(b:IsKy h v y):∀{vs:List Value} {ys:List Ky},KA h vs ys→KA h (vs++[v]) (ys++[y])
 |[],[],_=>⟨b,trivial⟩
 |_::_,_::_,a=>⟨a.1,KA.snoc b a.2⟩
 |[],_::_,a=>a.elim
 |_::_,[],a=>a.elim
theorem KA.tups{h:Heap}:∀{vs:List Value} {ys:List Ky},KA h vs ys→∃fs,KatTups h vs fs∧(∀f∈fs,∃n t,f=.int n t)∧fs.length=vs.length
 |[],[],_=>⟨[],trivial,(fun _ z=>by cases z),rfl⟩
 |v::vs,y::ys,a=>by
  obtain⟨fs,t,hf,hl⟩:=KA.tups a.2
  obtain⟨c,o,xs,n,tk,z,u,rfl,ho,hc,hd,hx,e⟩:=a.1
  refine⟨.int y.1 tk::fs,KatTups.cons ho hc hd ?_ t,fun f hm=>?_,by simp[hl]⟩
  ·rw[←Array.getElem?_toList,hx]
   rfl
  ·rcases Zap.mp hm with rfl |hm
   ·exact⟨_,_,rfl⟩
   ·exact hf f hm
 |[],_::_,a=>a.elim
 |_::_,[],a=>a.elim
theorem KA.at{h:Heap}:∀{ks:List Value} {ys:List Ky} {i:Nat},KA h ks ys→i < ks.length→kN h (ks.getD i Value.none)=some (ys.getD i (0,[]))
 |k::ks,y::ys,0,a,_=>a.1.key
 |k::ks,y::ys,i+1,a,hi=>by
  have:=KA.at (i:=i) a.2 (by simpa using hi)
  simpa using this
 |[],_,_,_,hi=>by simp at hi
 |_::_,[],_,a,_=>a.elim
def tK(ys:List Ky)(vs out:List Value):Prop:=∃ps:List (Ky×Value),ps.Perm (ys.zip vs)∧ps.Pairwise (fun p q=>eN q.1 p.1=false)∧out=ps.map (·.2)
@[reducible] def o8 (h:Heap) (p:Keyed):Ky:=(kN h p.1).getD (0,[])
theorem Cv{prog:Program}{w:World}{A:Around}{s:Shared}:NhLS.Cmp prog w A s (tuples' true) (dR s.heap).toKeyOrd (o8 s.heap) (fun p=>∃y,kN s.heap p.1=some y):=
 ⟨fun E x y Q ⟨a,ha⟩ ⟨b,hb⟩ hq=>by
  have hq':Q (eN (o8 s.heap x) (o8 s.heap y)) s:=hq
  unfold o8 at hq'
  rw[ha,hb]at hq'
  exact xz E x.1 y.1 a b ha hb hq'⟩
theorem KA.zip{h:Heap}:∀{ks:List Value} {ys:List Ky} {vs:List Value},KA h ks ys→(ks.zip vs).map (fun p=>(o8 h p,p.2))=ys.zip vs
 |[],[],_,_=>by simp
 |k::ks,y::ys,[],_=>by simp
 |k::ks,y::ys,v::vs,a=>by
  simp only[List.zip_cons_cons,c9]
  rw[KA.zip a.2]
  congr 1
  show((kN h k).getD (0,[]),v)=(y,v)
  rw[a.1.key]
  rfl
 |[],_::_,_,a=>a.elim
 |_::_,[],_,a=>a.elim
theorem KA.dom{h:Heap}{vs:List Value}:∀{ks:List Value} {ys:List Ky},KA h ks ys→∀p∈ks.zip vs,∃y,kN h p.1=some y:=fun {ks ys} a p hp=>by
 have hk:p.1∈ks:=(List.of_mem_zip hp).1
 clear hp
 induction ks generalizing ys with
 |nil=>cases hk
 |cons k ks ih=>cases ys with
  |nil=>exact a.elim
  |cons y ys=>
   rcases Zap.mp hk with e |hk
   ·rw[e];exact⟨y,a.1.key⟩
   ·exact ih a.2 hk
theorem z_{h:Heap}{ks:List Value}{ys:List Ky}{vs:List Value}{b:Array Keyed}(hK:KA h ks ys)(hp:b.toList.Perm (ks.zip vs))(hs:NhLS.So (dR h).toKeyOrd (o8 h) b 0 b.size):tK ys vs (b.map (·.2)).toList:=by
 refine⟨b.toList.map (fun p=>(o8 h p,p.2)),?_,?_,?_⟩
 ·rw[←hK.zip (vs:=vs)]
  exact hp.map _
 ·rw[List.pairwise_map,List.pairwise_iff_getElem]
  intro i j hi hj hij
  rw[NhLS.fL,NhLS.fL]
  exact hs i j (Nat.zero_le _) hij (by simpa using hj)
 ·rw[Array.toList_map,List.map_map]
  rfl
section
variable {prog:Program} {w:World} {A:Around} {E:Value→Shared→Prop} {s:Shared} {a kS:Addr} {ks vs:List Value} {ys:List Ky} {e e1:Nat} {P:PySem.Fin→Shared→Prop}
theorem rQ {st:SortSt} (hk:s.heap.get? kS=some (seqObj "list" ks.toArray e)) (ha:s.heap.get? a=some (seqObj "list" #[] e1)) (hka:kS≠a) (h64:vs.length < 65536) (hl:ks.length=vs.length) (hn:(arrOf st).size=vs.length) (hfl:failedOf st=none)
  (h:∀h' tk c,h'.get? a=some (seqObj "list" ((arrOf st).map (·.2)) c)→(∀b o,b≠a→b≠kS→s.heap.get? b=some o→h'.get? b=some o)→P (.done (.ret .none)) {s with heap:=h',toks:=tk}):
  wpAny (model prog w) A (ksk_tail a false e1 (.ref kS) st) P E s:=by
 have s1:=Heap.SameBut.update s.heap kS (Obj.mapSeq fun _=>(#[]:Array Value))
 have na1:(s.heap.update kS (Obj.mapSeq fun _=>(#[]:Array Value))).get? a=some (seqObj "list" #[] e1):=(s1.2 a hka.symm).trans ha
 have s2:=Heap.SameBut.update (s.heap.update kS (Obj.mapSeq fun _=>(#[]:Array Value))) a (Obj.mapSeq fun _=>(arrOf st).map (·.2))
 obtain⟨c2,hc2⟩:∃c2,((s.heap.update kS (Obj.mapSeq fun _=>(#[]:Array Value))).update a (Obj.mapSeq fun _=>(arrOf st).map (·.2))).get? a=some (seqObj "list" ((arrOf st).map (·.2)) c2):=⟨_,get?_update_seq na1 fun _=>(arrOf st).map (·.2)⟩
 unfold ksk_tail
 try dsimp only
 refine wpAny_bind (listUpdate_at hk rfl ?_ (by rw[jE,sizeLine_eq];omega) (Nat.zero_le _))
 refine wpAny_bind (wpAny_letGo ?_)
 refine wpAny_bind (seqEpoch_at na1 rfl ?_)
 simp only[ca]
 refine wpAny_bind (listUpdate_at na1 rfl ?_ (Nat.zero_le _) (by rw[Array.size_map,hn,sizeLine_eq];omega))
 rw[hfl]
 simp only[bne_self_eq_false,ca]
 exact wpAny_pure (h _ _ c2 hc2 fun b o h1 h2 q=>(s2.2 b h1).trans ((s1.2 b h2).trans q))
theorem Aa (hK:KA s.heap ks ys) (hk:s.heap.get? kS=some (seqObj "list" ks.toArray e)) (ha:s.heap.get? a=some (seqObj "list" #[] e1)) (hka:kS≠a) (h64:vs.length < 65536) (hl:ks.length=vs.length)
  (h:∀h' tk out c,h'.get? a=some (seqObj "list" out c)→tK ys vs out.toList→(∀b o,b≠a→b≠kS→s.heap.get? b=some o→h'.get? b=some o)→P (.done (.ret .none)) {s with heap:=h',toks:=tk}):
  wpAny (model prog w) A (ksk_end a false vs.toArray e1 (.ref kS) ks.toArray) P E s:=by
 have hzs:(ks.toArray.zip vs.toArray).size=vs.length:=by rw[Array.size_zip,jE,jE,hl,Nat.min_self]
 unfold ksk_end
 try dsimp only
 simp only[ca]
 by_cases h2:vs.toArray.size < 2
 ·rw[if_pos h2,if_pos h2]
  refine wpAny_bind (wpAny_pure ?_)
  rw[StateT.run_pure]
  refine wpAny_bind (wpAny_pure ?_)
  try dsimp only
  refine rQ (st:=SortSt.mk' general' (ks.toArray.zip vs.toArray) #[] 7 none) hk ha hka h64 hl hzs rfl fun h' tk c h1 h3=>h h' tk _ c h1 ⟨ys.zip vs,List.Perm.refl _,?_,?_⟩ h3
  ·rw[jE]at h2
   rw[List.pairwise_iff_getElem]
   intro i j hi hj hij
   simp at hj
   omega
  ·have e1:(ys.zip vs).map (·.2)=vs:=by rw[List.map_snd_zip];have:=hK.len;omega
   have e2:((arrOf (SortSt.mk' general' (ks.toArray.zip vs.toArray) #[] 7 none)).map (·.2)).toList=(ks.zip vs).map (·.2):=by
    show((ks.toArray.zip vs.toArray).map (·.2)).toList=_
    simp
   rw[e1,e2,List.map_snd_zip]
   omega
 ·rw[if_neg h2,if_neg h2]
  rw[jE]at h2
  obtain⟨fs,tt,hf,lf⟩:=hK.tups
  refine wpAny_bind (kat_kind (T:=.type "int") tt (by omega) (fun v hv=>?_) (by decide) ?_)
  ·obtain⟨n,t,rfl⟩:=hf v hv
   exact .now
  ·have run:=NhLS.qB (E:=E) (a:=ks.toArray.zip vs.toArray) (g:=7) (Cv (prog:=prog) (w:=w) (A:=A) (s:=s)) (Q:=fun _ st'=>∃b pd g,st'=SortSt.mk' (tuples' true) b pd g none∧b.toList.Perm (ks.zip vs)∧NhLS.So (dR s.heap).toKeyOrd (o8 s.heap) b 0 b.size)
    (by simpa using hK.dom) fun b pd g hp hs=>⟨b,pd,g,rfl,by simpa using hp,by have:=hp.length_eq;simp only[pT]at this;rw[this];exact hs⟩
   refine wpAny_bind (wpAny_mono run ?_ fun _ _ e=>e)
   rintro⟨⟨⟩,st'⟩ s' ⟨es,b,pd,g,e,hp,hs⟩
   subst es
   dsimp only at e
   subst e
   try dsimp only
   have hz:b.size=vs.length:=by have:=hp.length_eq;simpa[hl]using this
   exact rQ (st:=SortSt.mk' (tuples' true) b pd g none) hk ha hka h64 hl hz rfl fun h' tk c h1 h3=>h h' tk _ c h1 (z_ hK hp hs) h3
def iT(prog:Program)(w:World)(A:Around)(f:Value)(s:Shared)(v:Value)(y:Ky):Prop:=∀(h:Heap) (tk:Nat),Keep s.heap h→
 wpAny (model prog w) A (call f [v]) (fun r s'=>∃h' tk',s'={s with heap:=h',toks:=tk'}∧Keep h h'∧IsKy h' r y) (fun _ _=>False) {s with heap:=h,toks:=tk}
theorem xA {f:Value} {s0:Shared} (hs0:Keep s0.heap s.heap) (hss:∃tk,s={s0 with heap:=s.heap,toks:=tk}) (h0a:s0.heap.get? a=none) (h0k:s0.heap.get? kS=none) (hk:s.heap.get? kS=some (seqObj "list" #[] 0)) (ha:s.heap.get? a=some (seqObj "list" #[] e1)) (hka:kS≠a) (h64:vs.length < 65536) (hl:ys.length=vs.length)
  (turn:∀(i:Nat) (v:Value) (y:Ky),vs[i]? =some v→ys[i]? =some y→iT prog w A f s0 v y)
  (h:∀h' tk out c,h'.get? a=some (seqObj "list" out c)→tK ys vs out.toList→Keep s0.heap h'→P (.done (.ret .none)) {s0 with heap:=h',toks:=tk}):
  wpAny (model prog w) A (ksk_rest a f false vs.toArray e1 (.ref kS)) P E s:=by
 unfold ksk_rest
 refine wpAny_bind (wpAny_rule ?_)
 first
  |rw[List.forIn_toArray]
  |(rw[←Array.forIn_toList];simp only[List.toList_toArray])
  |rw[←Array.forIn_toList]
 obtain⟨tk0,es⟩:=hss
 refine wpAny_bind (ksk_fold (fun i s'=>∃h' tk kL e,s'={s0 with heap:=h',toks:=tk}∧Keep s0.heap h'∧h'.get? kS=some (seqObj "list" kL.toArray e)∧h'.get? a=some (seqObj "list" #[] e1)∧KA h' kL (ys.take i)) vs 0 s
  ⟨s.heap,tk0,[],0,es,hs0,hk,ha,by simp[KA]⟩ ?step ?done)
 case step=>
  rintro j x s' hx ⟨h',tk,kL,e,rfl,F',N1,N2,hK⟩
  simp only[Nat.zero_add]at hK ⊢
  have hj:j < vs.length:=(List.getElem?_eq_some_iff.mp hx).1
  obtain⟨y,hyj⟩:∃y,ys[j]? =some y:=⟨_,pS (by omega)⟩
  have hz:kL.length≤vs.length:=by
   have h1:=hK.len
   rw[List.length_take]at h1
   omega
  refine wpAny_bind (wpAny_attempt (wpAny_mono (turn j x y hx hyj h' tk F') (fun v s'' he=>?_) fun _ _ hF=>hF.elim))
  obtain⟨g,tk2,rfl,kg,hy⟩:=he
  try dsimp only
  have nk:=kg _ _ N1
  have na:=kg _ _ N2
  have s1:=Heap.SameBut.update g kS (Obj.mapSeq (·.push v))
  obtain⟨c2,hc2⟩:∃c2,(g.update kS (Obj.mapSeq (·.push v))).get? kS=some (seqObj "list" (kL.toArray.push v) c2):=⟨_,get?_update_seq nk (·.push v)⟩
  have ek:ys.take (j+1)=ys.take j++[y]:=by rw[List.take_add_one,hyj];simp
  have ea:kL.toArray.push v=(kL++[v]).toArray:=by simp
  have ng:∀{ks':List Value} {ys':List Ky},KA g ks' ys'→KA (g.update kS (Obj.mapSeq (·.push v))) ks' ys':=fun {ks'} {ys'} q=>by
   induction ks' generalizing ys' with
   |nil=>cases ys' with
    |nil=>trivial
    |cons _ _=>exact q.elim
   |cons k ks' ih=>cases ys' with
    |nil=>exact q.elim
    |cons y' ys'=>
     refine⟨?_,ih q.2⟩
     obtain⟨c,o,xs,n,t,z,u,ec,ho,hcl,r⟩:=q.1
     refine⟨c,o,xs,n,t,z,u,ec,(s1.2 c ?_).trans ho,hcl,r⟩
     intro e3
     subst e3
     rw[nk]at ho
     cases ho
     have e4:Value.type "list"=Value.type "tuple":=hcl
     injection e4 with e5
     exact absurd e5 (by decide)
  refine wpAny_bind (listUpdate_at nk rfl ?_ (by rw[jE,sizeLine_eq];omega) (gG (Nat.le_of_eq (Array.size_push ..)) (by rw[jE,sizeLine_eq];omega)))
  refine wpAny_pure ⟨rfl,_,_,kL++[v],c2,rfl,fun b o q=>?_,by rw[←ea];exact hc2,(s1.2 a hka.symm).trans na,by rw[ek];exact ng (KA.snoc hy (hK.keep kg))⟩
  refine(s1.2 b fun e3=>?_).trans (kg _ _ (F' _ _ q))
  subst e3
  rw[h0k]at q
  cases q
 case done=>
  rintro s' ⟨h',tk,kL,e,rfl,F',N1,N2,hK⟩
  have e3:ys.take (0+vs.length)=ys:=List.take_of_length_le (by omega)
  rw[e3]at hK
  try dsimp only
  refine wpAny_bind (listItems_at N1 rfl ?_)
  refine Aa (s:={s0 with heap:=h',toks:=tk}) hK N1 N2 hka h64 (by rw[hK.len,hl]) fun h3 tk3 out c g1 g2 g3=>h h3 tk3 out c g1 g2 fun b o q=>g3 b o ?_ ?_ (F' b o q)
  ·intro z;subst z;rw[h0a]at q;cases q
  ·intro z;subst z;rw[h0k]at q;cases q
theorem xB {f:Value} {n:Nat} {s0:Shared} (hs0:Keep s0.heap s.heap) (hss:∃tk,s={s0 with heap:=s.heap,toks:=tk}) (h0a:s0.heap.get? a=none) (hle:s0.heap.objs.size≤s.heap.objs.size) (ho:s.heap.get? a=some (seqObj "list" vs.toArray n)) (h64:vs.length < 65536) (hl:ys.length=vs.length)
  (turn:∀(i:Nat) (v:Value) (y:Ky),vs[i]? =some v→ys[i]? =some y→iT prog w A f s0 v y)
  (h:∀h' tk out c,h'.get? a=some (seqObj "list" out c)→tK ys vs out.toList→Keep s0.heap h'→P (.done (.ret .none)) {s0 with heap:=h',toks:=tk}):
  wpAny (model prog w) A (ksk_tree a f false) P E s:=by
 have ha:a < s.heap.objs.size:=eB ho
 have s1:=Heap.SameBut.update s.heap a (Obj.mapSeq fun _=>(#[]:Array Value))
 obtain⟨e1,ho1⟩:∃e1,(s.heap.update a (Obj.mapSeq fun _=>(#[]:Array Value))).get? a=some (seqObj "list" #[] e1):=⟨_,get?_update_seq ho fun _=>#[]⟩
 have hkS:((s.heap.update a (Obj.mapSeq fun _=>(#[]:Array Value))).push (seqObj "tuple" vs.toArray 0)).objs.size=s.heap.objs.size+1:=by rw[size_push',Heap.size_update]
 obtain⟨tk0,es⟩:=hss
 unfold ksk_tree
 refine wpAny_bind (listItems_at ho rfl ?_)
 refine wpAny_bind (listUpdate_at ho rfl ?_ (by rw[jE,sizeLine_eq];omega) (Nat.zero_le _))
 refine wpAny_bind (seqEpoch_at ho1 rfl ?_)
 refine wpAny_bind (wpAny_newTuple ?_ (by show vs.length≤_;rw[sizeLine_eq];omega))
 refine wpAny_bind (wpAny_newList ?_ (Nat.zero_le _))
 refine wpAny_holding ?_
 refine xA (s:={s with heap:=((s.heap.update a (Obj.mapSeq fun _=>(#[]:Array Value))).push (seqObj "tuple" vs.toArray 0)).push (seqObj "list" #[] 0)}) (kS:=((s.heap.update a (Obj.mapSeq fun _=>(#[]:Array Value))).push (seqObj "tuple" vs.toArray 0)).objs.size) (s0:=s0)
  (fun b o q=>?_) ⟨tk0,by rw[es]⟩ h0a (Heap.get?_none_of_le (by rw[hkS];omega)) (gE _ rfl) (dI _ (dI _ ho1)) (by rw[hkS];exact Nat.ne_of_gt (n_ ha)) h64 hl turn h
 refine dI _ (dI _ ((s1.2 b fun z=>?_).trans (hs0 b o q)))
 subst z
 rw[h0a]at q
 cases q
end
end NhSG
namespace NhSG
set_option autoImplicit false
open PySem PyProof PyProof.Rows PySem.W
section
variable {prog:Program} {w:World} {A:Around} {E:Value→Shared→Prop} {s:Shared} {l q:Addr} {vs:List Value} {ys:List Ky} {Q:Value→Shared→Prop}
theorem qC(hl:s.heap.IsList l vs.toArray)(hlen:ys.length=vs.length)(h64:vs.length < 65536)
  (turn:∀(i:Nat) (v:Value) (y:Ky),vs[i]? =some v→ys[i]? =some y→iT prog w A.in1.in1 (.ref q) s v y)
  (h:∀D h' tk out c,h'.get? D=some (seqObj "list" out c)→s.heap.objs.size≤D→tK ys vs out.toList→Keep s.heap h'→Q (.ref D) {s with heap:=h',toks:=tk}):
  wpAny (model prog w) A (call (.builtin "sorted") [.ref l] [(Str.ofString "key",.ref q)]) Q E s:=by
 refine call_function_entry_kw kind_sorted plain_sorted entry_sorted (ksk_s1 _ _) ?_
 unfold Builtin.«sorted»
 refine wpAny_bind (m:=checkCount "sorted" 1 1 _) (wpAny_pure ?_)
 refine wpAny_bind (collect_list hl ?_ (by rw[sizeLine_eq];omega))
 refine wpAny_bind (wpAny_newList ?_ (by rw[sizeLine_eq];omega))
 have hsz:((s.heap.push (seqObj "list" #[] 0)).update s.heap.objs.size (Obj.mapSeq (· ++vs.toArray))).objs.size=s.heap.objs.size+1:=by
  rw[Heap.size_update,size_push']
 have hoL:(((s.heap.push (seqObj "list" #[] 0)).update s.heap.objs.size (Obj.mapSeq (· ++vs.toArray))).push (seqObj "list" vs.toArray 0)).get? (s.heap.objs.size+1)=some (seqObj "list" vs.toArray 0):=by
  rw[←hsz];exact gE _ rfl
 have keep:Keep s.heap (((s.heap.push (seqObj "list" #[] 0)).update s.heap.objs.size (Obj.mapSeq (· ++vs.toArray))).push (seqObj "list" vs.toArray 0)):=fun b o q=>by
  have hlt:b < s.heap.objs.size:=eB q
  rw[Heap.get?_push_ne _ _ _ (by rw[hsz];exact eT (n_ hlt)),Heap.get?_update_ne _ _ _ _ (eT hlt),Heap.get?_push_ne _ _ _ (eT hlt)]
  exact q
 show wpAny _ _ _ _ _ {s with heap:=((s.heap.push (seqObj "list" #[] 0)).update s.heap.objs.size (Obj.mapSeq (· ++vs.toArray))).push (seqObj "list" vs.toArray 0)}
 rw[hsz]
 have h0:s.heap.get? (s.heap.objs.size+1)=none:=Heap.get?_none_of_le (Nat.le_succ _)
 refine wpAny_bind (wpAny_holding (wpAny_call_entry_kw slot_list_sort ⟨_,hoL,rfl⟩ entry_list_sort ?body (ksk_l1 _ _)))
 case body=>
  show wpAny (model prog w) A.in1.in1 (Builtin.«list.sort» ⟨[.ref (s.heap.objs.size+1)],[(Str.ofString "key",.ref q)]⟩) _ _ _
  rw[ksk_t1]
  refine xB (s:={s with heap:=((s.heap.push (seqObj "list" #[] 0)).update s.heap.objs.size (Obj.mapSeq (· ++vs.toArray))).push (seqObj "list" vs.toArray 0)}) (s0:=s) keep ⟨s.toks,rfl⟩ h0 (by rw[size_push',hsz];omega) hoL h64 hlen turn fun h' tk out c g1 g2 g3=>⟨_,rfl,?_⟩
  exact wpAny_pure ⟨_,rfl,h _ h' tk out c g1 (Nat.le_succ _) g2 g3⟩
end
end NhSG
namespace NhSG
set_option autoImplicit false
open PySem
def fW(z:Str):Ky:=(z.length,z.cps.toList)
def nZ(a b:Str):Bool:= !eN (fW b) (fW a)
def gY(ws:List Str):List Str:=ws.mergeSort nZ
def pV:Value→Option Str
 |.str z _=>some z
 |_=>none
theorem vr{a b:Str}(h:fW a=fW b):a=b:=by
 have e:a.cps.toList=b.cps.toList:=congrArg Prod.snd h
 cases a;cases b
 congr
 exact Array.toList_inj.mp e
theorem tL(a b c:Str)(h1:nZ a b=true)(h2:nZ b c=true):nZ a c=true:=by
 unfold nZ at *
 simp only[Bool.not_eq_true']at *
 exact(PyProof.Rows.KeyOrd.kle_trans (O:=(dR default).toKeyOrd) h1 h2)
theorem tM(a b:Str):(nZ a b||nZ b a)=true:=by
 unfold nZ
 by_cases h:eN (fW b) (fW a)=true
 ·have:eN (fW a) (fW b)=false:=PyProof.Rows.KeyOrd.klt_asymm (O:=(dR default).toKeyOrd) h
  simp[this]
 ·simp[Bool.not_eq_true _▸h]
theorem vt{a b:Str}(h1:nZ a b=true)(h2:nZ b a=true):a=b:=by
 unfold nZ at *
 simp only[Bool.not_eq_true']at *
 exact vr ((dR default).total _ _ h2 h1)
theorem mz{qs ws:List Str}(hp:qs.Perm ws)(hs:qs.Pairwise fun a b=>nZ a b=true):qs=gY ws:=by
 have h1:(gY ws).Pairwise fun a b=>nZ a b=true:=List.pairwise_mergeSort tL tM ws
 have h2:qs.Perm (gY ws):=hp.trans (List.mergeSort_perm ws nZ).symm
 exact h2.eq_of_pairwise (fun a b _ _ x y=>vt x y) hs h1
theorem tN{ws:List Str}{vs out:List Value}(hv:vs.map pV=ws.map some)(h:tK (ws.map fW) vs out):out.map pV=(gY ws).map some:=by
 obtain⟨ps,hp,hs,rfl⟩:=h
 have key:∀(ws:List Str) (vs:List Value),vs.map pV=ws.map some→∀p∈(ws.map fW).zip vs,∃z,p.1=fW z∧pV p.2=some z:=fun ws=>by
  induction ws with
  |nil=>intro vs _ p hp;simp at hp
  |cons w ws ih=>
   intro vs hv p hp
   cases vs with
   |nil=>simp at hp
   |cons v vs=>
    simp only[c9,List.cons.injEq]at hv
    rw[c9,List.zip_cons_cons]at hp
    rcases Zap.mp hp with rfl |hp
    ·exact⟨w,rfl,hv.1⟩
    ·exact ih vs hv.2 p hp
 have zm:∀(ws:List Str) (vs:List Value),vs.map pV=ws.map some→((ws.map fW).zip vs).map (fun p=>pV p.2)=ws.map some:=fun ws=>by
  induction ws with
  |nil=>intro vs _;simp
  |cons w ws ih=>
   intro vs hv
   cases vs with
   |nil=>simp at hv
   |cons v vs=>
    simp only[c9,List.cons.injEq]at hv
    simp only[c9,List.zip_cons_cons,hv.1,ih vs hv.2]
 have ex:∀ps:List (Ky×Value),(∀p∈ps,∃z,p.1=fW z∧pV p.2=some z)→∃qs:List Str,ps.map (·.1)=qs.map fW∧ps.map (fun p=>pV p.2)=qs.map some:=fun ps=>by
  induction ps with
  |nil=>intro _;exact⟨[],rfl,rfl⟩
  |cons p ps ih=>
   intro h
   obtain⟨z,h1,h2⟩:=h p (f_ ..)
   obtain⟨qs,e1,e2⟩:=ih fun q hq=>h q (fD _ hq)
   exact⟨z::qs,by simp[h1,e1],by simp[h2,e2]⟩
 obtain⟨qs,e1,e2⟩:=ex ps fun p hp'=>key ws vs hv p (hp.mem_iff.mp hp')
 have perm:qs.Perm ws:=by
  have h1:=hp.map (fun p=>pV p.2)
  rw[e2,zm ws vs hv]at h1
  have h2:=h1.filterMap id
  simpa using h2
 have srt:qs.Pairwise fun a b=>nZ a b=true:=by
  have h1:(ps.map (·.1)).Pairwise fun a b=>eN b a=false:=List.pairwise_map.mpr hs
  rw[e1,List.pairwise_map]at h1
  exact h1.imp fun h=>by unfold nZ;simp[h]
 rw[List.map_map]
 show ps.map (fun p=>pV p.2)=_
 rw[e2,mz perm srt]
end NhSG
namespace NhSG
open PySem PySem.Spec PySem.Calls PyProof PyProof.Rows PySem.W
section
variable {prog:Program} {w:World} {A:Around} {E:Value→Shared→Prop} {s:Shared} {Q:Value→Shared→Prop}
theorem vv {env:Env} {x z:Str} {t:Tok} {m mg mb:Str→Option Value} {p1 p2 p3 p4 pos:Pos} {x1} (hk:env.scope.kind=.function) (hx:env.kindOf x=some .local) (hl:env.kindOf "len"=some .globalImplicit)
  (hn:s.heap.Ns env.locals m) (hm:m x=some (.str z t)) (hg:s.heap.Ns env.globals mg) (hlg:mg "len"=none) (hb:s.heap.Ns env.builtins mb) (hlb:mb "len"=some (.builtin "len")) (hz:z.length≤sizeLine)
  (h:∀h' tk r,Keep s.heap h'→IsKy h' r (fW z)→Q r {s with heap:=h',toks:=tk})
  (hd:(x == ("__debug__":Str))=false:=by decide) (h1:starEach [Expr.Call (.Name "len" p1) [.Name x p2] [] p3,.Name x p4] env=(false,eval (.Call (.Name "len" p1) [.Name x p2] [] p3) env)::starEach [Expr.Name x p4] env:=by rfl)
  (h2:starEach [Expr.Name x p4] env=[(false,eval (.Name x p4) env)]:=by rfl) (h3:starEach [Expr.Name x p2] env=(false,eval (.Name x p2) env)::starEach [] env:=by rfl):
  wpAny (model prog w) A (eval (.Tuple [.Call (.Name "len" p1) [.Name x p2] [] p3,.Name x p4] x1 pos) env) Q E s:=by
 refine wpAny_Tuple_spliced ?_
 rw[h1,h2]
 show wpAny _ _ (spliced ((false,eval (.Call (.Name "len" p1) [.Name x p2] [] p3) env)::backTo pos [(false,eval (.Name x p4) env)])) _ _ s
 refine Calls.spliced_cons ?_
 refine wpAny_Call_Name_kw (Calls.Name_function_global hk hl (Calls.loadGlobal_builtin hg hlg hb hlb ?_) (by decide))
 refine PyProof.Rows.callWith_builtin1 ?_ h3 rfl
 rw[h3]
 show wpAny _ _ (spliced ((false,eval (.Name x p2) env)::backTo p3 (starEach [] env))) _ _ s
 refine Calls.spliced_cons (wpAny_Name (wpAny_loadName_local hk hx hn hm ?_) hd)
 show wpAny _ _ (spliced []) _ _ s
 refine Calls.spliced_nil ?_
 refine len_str (by have:=hz;rw[sizeLine_eq]at this;omega) ?_
 show wpAny _ _ (spliced [(false,standAt pos >>= fun _=>eval (.Name x p4) env)]) _ _ _
 refine Calls.spliced_cons (wpAny_bind (wpAny_standAt (wpAny_Name (wpAny_loadName_local hk hx hn hm ?_) hd)))
 refine Calls.spliced_nil ⟨by rw[sizeLine_eq];simp,?_⟩
 exact h _ _ _ (fun b o e=>dI _ e) ⟨_,_,_,_,_,z,t,rfl,gE _ rfl,rfl,rfl,rfl,rfl⟩
structure KMod (h:Heap):Prop where
 g:∃mg,h.Ns mainGlobals mg∧mg "len"=none
 b:∃mb,h.Ns builtinsNs mb∧mb "len"=some (.builtin "len")
 lim:h.NoLimit
theorem KMod.keeps{h h':Heap}(a:KMod h)(k:Keep h h'):KMod h':=
 ⟨let ⟨mg,e,r⟩:=a.g;⟨mg,e.keeps k,r⟩,let ⟨mb,e,r⟩:=a.b;⟨mb,e.keeps k,r⟩,a.lim.keeps k⟩
theorem o9{f c':Addr}{name qual x z:Str}{t:Tok}{params:Arguments}{scope:Scope}{pm ctv:Value}{p1 p2 p3 p4 pos:Pos}{x1}(M:KMod s.heap)(hroom:A.depth < recursionLimit)
  (ho:s.heap.get? f=some (kla_obj name qual params (.Tuple [.Call (.Name "len" p1) [.Name x p2] [] p3,.Name x p4] x1 pos) scope [] pm c' ctv)) (hcd:s.heap.CodeRec (.ref c') qual) (hz:z.length≤sizeLine)
  (hbind:bindArgs (kla_fn name qual params (.Tuple [.Call (.Name "len" p1) [.Name x p2] [] p3,.Name x p4] x1 pos) scope [] pm (.ref c') ctv) ⟨[.str z t],[]⟩=pure [(x,.str z t)])
  (hx:scope.names.lookup x=some .local) (hlen:scope.names.lookup (Str.ofString "len")=some .globalImplicit) (hco:scope.isCoroutine=false) (hgen:scope.isGenerator=false) (hk:scope.kind=.function) (hcell:∀x∈scope.names,x.2≠ .cell)
  (hd:(x == ("__debug__":Str))=false):iT prog w A (.ref f) s (.str z t) (fW z):=by
 intro h tk kp
 refine wpAny_call (kla_callFunE hroom (kp _ _ ho) rfl hco hgen rfl (hcd.keeps kp) ?_)
 rw[hbind]
 refine wpAny_pure (wpAny_newFunctionEnv hcell (fun y hy=>?_) (fun h₁ hns hsb=>⟨((M.keeps kp).lim).fresh _ hsb,?_⟩) hk)
 ·rw[Zaf.mp hy];exact hx
 have hk₁:Keep h h₁:=fun b o e=>hsb.extBut b o (eT (eB e)) (dI _ e)
 have M1:=(M.keeps kp).keeps hk₁
 obtain⟨mg,g1,g2⟩:=M1.g
 obtain⟨mb,b1,b2⟩:=M1.b
 refine kla_codeExpr (vv (t:=t) (z:=z) (m:=fun y=>List.lookup y [(x,Value.str z t)].reverse) hk hx hlen hns ?_ g1 g2 b1 b2 hz (fun h' tk' r k1 k2=>?_) hd)
 ·simp
 ·exact⟨h',tk',rfl,hk₁.trans k1,k2⟩
end
end NhSG
namespace PL
open PySem L2 Nh
def nO(f:aO):aO:=fun E=>(f E).bind fun a=>match look a.2 a.1 with
 |some (.list ds)=>(gW ds).bind fun ss=>if (decide (ss.length < 65536)&&ss.all fun z=>decide (z.length≤1000))=true then some (.ow ((NhSG.gY ss).map .str),a.2)else none
 |_=>none
theorem o_:∀{ws:List Str} {vs:List Value},Vals (ws.map V.str) vs→vs.map NhSG.pV=ws.map some
 |[],_,.nil=>rfl
 |w::ws,_,.cons r t=>by
  obtain⟨u,rfl⟩:=r
  simp only[c9,o_ t]
  rfl
theorem pe:∀{ws:List Str} {vs:List Value},vs.map NhSG.pV=ws.map some→Vals (ws.map V.str) vs
 |[],[],_=>.nil
 |[],_::_,h=>by simp at h
 |_::_,[],h=>by simp at h
 |w::ws,v::vs,h=>by
  simp only[c9,List.cons.injEq]at h
  refine .cons ?_ (pe h.2)
  have h1:=h.1
  unfold NhSG.pV at h1
  split at h1
  ·cases h1;exact⟨_,rfl⟩
  ·cases h1
section
variable {X:Cx} {pins:List (Addr×Obj)} {σ:L2.St} {H:Hp} {s:Shared}
theorem BJ (I:Inv X pins σ H s) (hl:X.mg "len"=none):NhSG.KMod s.heap:=
 ⟨⟨X.mg,I.mod.glob.keeps I.bk,hl⟩,let ⟨mb,h1,h2⟩:=I.mod.blt;⟨mb,h1.keeps I.bk,(h2 _ (by decide)).trans rfl⟩,I.nolimit⟩
theorem mB{l q:Addr}{ss:List Str}{Q:VK}(I:Inv X pins σ H s)(hq:SqL X.K H l (ss.map V.str))(h64:ss.length < 65536)
  (turn:∀z t,z∈ss→NhSG.iT X.prog X.w X.A.in1.in1 (.ref q) s (.str z t) (NhSG.fW z))
  (h:∀D,H D=none→Q (.ref D) (upd H D (.lst ((NhSG.gY ss).map V.str)))):
  wpAny (model X.prog X.w) X.A (call (.builtin "sorted") [.ref l] [(Str.ofString "key",.ref q)]) (EP X pins σ Q) X.xe s:=by
 obtain⟨its,rv,pl,hz⟩:=I.list hq
 have hv:=o_ rv
 have hlen:its.length=ss.length:=by have:=congrArg List.length hv;simpa using this
 refine NhSG.qC (ys:=ss.map NhSG.fW) pl.isList (by simp[hlen]) (by omega) (fun i v y hv' hy'=>?_) fun D h' tk out c g1 g2 g3 g4=>?_
 ·rw[qT]at hy'
  obtain⟨z,hz1,rfl⟩:=Zab.mp hy'
  have e:(its.map NhSG.pV)[i]? =(ss.map some)[i]? :=by rw[hv]
  rw[qT,qT,hv',hz1]at e
  have e1:NhSG.pV v=some z:=by simpa using e
  unfold NhSG.pV at e1
  split at e1
  ·cases e1;exact turn _ _ (List.mem_of_getElem? hz1)
  ·cases e1
 ·have ot:=NhSG.tN hv g3
  refine⟨.ref D,_,I.laid (t':=tk) g4 g2 (show ObjOk X.prog X.w _ _ _ (.lst ((NhSG.gY ss).map V.str))from⟨?_,out.toList,c,pe ot,by simpa using g1⟩),rfl,h D (I.hok.fresh g2)⟩
  rw[dv]
  have:(NhSG.gY ss).length=ss.length:=(List.mergeSort_perm ss NhSG.nZ).length_eq
  rw[this,sizeLine_eq]
  omega
end
theorem pf{z:Str}(h:z.length≤1000):z.length≤sizeLine:=by rw[sizeLine_eq];omega
end PL
namespace PL
open PySem L2 Nh
theorem lI{pos:Pos}{a b:Int}{c cv:Value}(l:List Value)(h:TriplesOk l)(e:codeAmong pos (l++[rawInt a,rawInt b,c])=some cv):codeAmong pos l=some cv∨cv=c:=by
 fun_induction TriplesOk l with
 |case1=>
  simp only[Z8,codeAmong,rawInt]at e
  split at e
  ·cases e;exact .inr rfl
  ·cases e
 |case2 a' t b' u x aA ih=>
  simp only[Z9,codeAmong]at e ⊢
  split at e
  ·rename_i hc;rw[if_pos hc];exact .inl e
  ·rename_i hc;rw[if_neg hc];exact ih h e
 |case3 l h1 h2=>exact h.elim
section
variable {X:Cx} {pins:List (Addr×Obj)} {σ:L2.St} {H:Hp} {s:Shared}
theorem tO{P c':Addr}{q:Str}{ps:Array Value}{a b:Int}{h':Heap}{tk:Nat}(I:Inv X pins σ H s)(hT:H P=some (.tbl q))(hps:s.heap.get? P=some (tabObj ps))
  (hx:∀b o,b≠P→s.heap.get? b=some o→h'.get? b=some o) (hc:s.heap.objs.size≤c') (hr:h'.CodeRec (.ref c') q) (hP:h'.get? P=some (tabObj (ps++#[rawInt a,rawInt b,.ref c']))):
  Inv X pins σ (upd H c' (.own P)) {s with heap:=h',toks:=tk}:=by
 have hn:H c'=none:=I.hok.fresh hc
 have neP:∀b,H b=none→b≠P:=fun b n z=>by subst z;rw[hT]at n;cases n
 obtain⟨ps0,e0,t0,r0⟩:=I.hok P _ hT
 rw[hps]at e0
 cases e0
 refine I.un (h':=h') (t':=tk) ⟨fun b o e n _ _=>hx b o (neP b n) e,fun b o e n _ _=>⟨o.slots,hx b o (neP b n) e⟩,fun b o e n _=>?_,fun b o e _=>?_,fun b xs e=>?_,fun b o u e=>?_,fun b z e=>?_⟩ fun d o e=>?_
 ·rw[aD (eT (i7 (eB e) hc))];exact n
 ·by_cases hb:b=P
  ·subst hb;exact⟨_,hP⟩
  ·exact⟨o,hx b o hb e⟩
 ·rw[aD (a9 e hn)];exact e
 ·rw[aD (a9 e hn)];exact e
 ·rw[aD (a9 e hn)];exact e
 ·by_cases hd:d=c'
  ·subst hd
   rw[bF]at e
   cases e
   obtain⟨c2,oc,_,_,hc2,hoc,_⟩:=hr
   cases hc2
   exact⟨oc,hoc⟩
  ·rw[aD hd]at e
   by_cases hp:d=P
   ·subst hp
    rw[hT]at e
    cases e
    refine⟨_,hP,by simpa using TriplesOk_snoc a b (.ref c') _ t0,fun pos cv z=>?_⟩
    rcases lI (a:=a) (b:=b) (c:=.ref c') ps.toList t0 (by simpa using z)with z |z
    ·obtain⟨c,ec,ho,c2,oc,vs,tq,hc2,hoc,hr2⟩:=r0 pos cv z
     subst ec
     cases hc2
     refine⟨c,rfl,by rw[aD (a9 ho hn)];exact ho,c,oc,vs,tq,rfl,hx _ _ (fun z=>?_) hoc,hr2⟩
     subst z
     rw[hT]at ho
     cases ho
    ·subst z
     exact⟨c',rfl,bF,hr⟩
   ·refine(I.hok d o e).stay (fun b u hb q=>hx b u ?_ q) (fun b hb=>by rw[aD (a9 hb hn)];exact hb) fun b xs hb=>by rw[aD (a9 hb hn)];exact hb
    rcases hb with rfl |hb
    ·exact hp
    ·intro z
     subst z
     rw[hT]at hb
     cases hb
theorem BK{P:Addr}{ps:Array Value}(I:Inv X pins σ H s)(hps:s.heap.get? P=some (tabObj ps)):mainGlobals≠P∧s.heap.BuiltinsAt X.mg P:=by
 have hg:=I.mod.glob.keeps I.bk
 obtain⟨bm,ob,b1,b2,b3,b4,b5,b6⟩:=I.mod.bmain
 have b3':=I.bk _ _ b3
 refine⟨fun q=>?_,bm,ob,b1,b2,fun q=>?_,fun q=>?_,b3',b4,b5,b6⟩
 ·obtain⟨o,es,ep,e,hd,_⟩:=hg
  rw[q,hps]at e;cases e;cases hd
 ·obtain⟨o,es,ep,e,hd,_⟩:=hg
  rw[q,e]at b3';cases b3';rw[hd]at b6;cases b6
 ·rw[q,hps]at b3';cases b3';cases b4
end
section
variable {X:Cx} {e:Expr} {m:Bool} {f:aO} {p pos kp lp:Pos} {y:Str} {k:Nat} {p1 p2 p3 p4 tp:Pos} {x1:Nat} {params:Arguments} {scope:Scope} {c P:Addr}
theorem vw (hcode:X.env.code=.ref c) (hP:uh X.K=some P) (hC:codeHdIn X.K c P=true) (hr:Room k X.A) (hg:Gl X "sorted") (hm:X.mg "sorted"=none) (hl:X.mg "len"=none) (ha:EX X e m f)
  (hq:X.env.qual++"<lambda>"=Str.ofString "in_told_order.<locals>.<lambda>") (hdef:defaultsOf params X.env=([],[]):=by rfl)
  (hbind:∀(name qual:Str) (pm cd ctv u:Value),bindArgs (PySem.W.kla_fn name qual params (.Tuple [.Call (.Name "len" p1) [.Name y p2] [] p3,.Name y p4] x1 tp) scope [] pm cd ctv) ⟨[u],[]⟩=pure [(y,u)]:=by intros;rfl)
  (sc1:scope.names.lookup y=some .local:=by rfl) (fF:scope.names.lookup (Str.ofString "len")=some .globalImplicit:=by rfl) (sc3:scope.isCoroutine=false:=by rfl) (sc4:scope.isGenerator=false:=by rfl) (sc5:scope.kind=.function:=by rfl)
  (sc6:∀x∈scope.names,x.2≠ .cell:=by decide) (sc7:∀x∈scope.names,x.2≠ .free:=by decide) (hdy:(y == ("__debug__":Str))=false:=by decide)
  (he:starEach [e] X.env=[(false,eval e X.env)]:=by rfl)
  (he':backTo pos (starEach [e] X.env)=(false,eval e X.env)::backTo pos (starEach [] X.env):=by rfl) (hpl:(backTo pos (starEach [e] X.env)).any (·.1)=false:=by rfl)
  (hall:(backToKw pos (keywordEach [⟨some "key",.Lambda params (.Tuple [.Call (.Name "len" p1) [.Name y p2] [] p3,.Name y p4] x1 tp) scope lp,kp⟩] X.env)).all (·.1.isSome)=true:=by rfl)
  (hkw:(backToKw pos (keywordEach [⟨some "key",.Lambda params (.Tuple [.Call (.Name "len" p1) [.Name y p2] [] p3,.Name y p4] x1 tp) scope lp,kp⟩] X.env)).any (·.1.isNone)=false:=by rfl)
  (hnm:(backToKw pos (keywordEach [⟨some "key",.Lambda params (.Tuple [.Call (.Name "len" p1) [.Name y p2] [] p3,.Name y p4] x1 tp) scope lp,kp⟩] X.env)).filterMap (·.1)=[Str.ofString "key"]:=by rfl):
  EX X (.Call (.Name "sorted" p) [e] [⟨some "key",.Lambda params (.Tuple [.Call (.Name "len" p1) [.Name y p2] [] p3,.Name y p4] x1 tp) scope lp,kp⟩] pos) m (nO f):=by
 intro pins s σ H Q I z
 obtain⟨B,E,xs,Xs,res,E',fr,cl,e0,q⟩:=z
 obtain⟨⟨r1,E1⟩,e1,e2⟩:=Za.mp e0
 simp only at e2
 split at e2
 ·rename_i ds ld
  obtain⟨ss,en,e3⟩:=Za.mp e2
  split at e3
  ·rename_i hc
   cases e3
   simp only[pW,decide_eq_true_eq,List.all_eq_true]at hc
   refine wpAny_Call_Name_kw (i9 I hg hm PyProof.Rows.boot_sorted ?_ (by decide) (by decide))
   refine PyProof.Rows.callWith_kw (cr (cV ha eW he pos pins s σ H (fun vs H1=>∃p,vs=[.ref p]∧SqL X.K H1 p (ss.map V.str)∧∀H2,Same H1 H2→∀D,H2 D=none→Q (.ref D) (upd H2 D (.lst ((NhSG.gY ss).map V.str)))) I ⟨B,E,xs,Xs,r1,_,fr,cl,e1,fun v1 H1 ⟨F,A,fr1⟩=>?_⟩) fun us s2 ⟨vs,H1,I1,r1,p0,ev,hq1,q1⟩=>?_) he' hpl hall hkw
   ·obtain⟨A',fr2⟩:=fr1.pop
    have r:=(fr1.look0 ld).1
    cases r with
    |lst h1 h2=>
     have:=ke h2 en
     subst this
     exact⟨_,rfl,h1,fun H2 g D hD=>q _ _ ⟨_,_,(fr2.grow g).newl (gu _) hD⟩⟩
   ·subst ev
    cases r1 with
    |cons r rr=>
     cases rr
     cases r
     refine PyProof.Rows.kws_cons (PySem.W.kla_eval hdef ?_)
     have hT:H1 P=some (.tbl (Str.ofString "in_told_order.<locals>.<lambda>")):=I1.tab P _ (by unfold jS;rw[if_pos hP])
     obtain⟨ps,hps,ht,hit⟩:=I1.hok P _ hT
     obtain⟨hgP,hbA⟩:=BK I1 hps
     have hcl:closureFor scope X.env=pure []:=closureFor_none sc7
     have C:=PySem.W.codeHd_of_K I1.kIn hC
     have hroom:X.A.in1.in1.depth < recursionLimit:=by have:=hr.dp;show X.A.depth < recursionLimit;omega
     cases hca:codeAmong lp ps.toList with
     |none=>
      refine PySem.W.kla_makeFunction hcl I1.ok.glob (I1.mod.glob.keeps I1.bk) hcode C hps ht hca hgP hbA fun c' ctv h' tk hx hge hlt hrec htb=>?_
      rw[hq]at hrec
      have I2:=tO (tk:=tk) I1 hT hps (fun b o hb e=>hx b o hb e) hge hrec htb
      have g:Same H1 (upd H1 c' (.own P)):=fE (I1.hok.fresh hge) _
      have I3:=I2.kept (t':=tk) (fun b o e=>dI (PySem.W.kla_obj "<lambda>" (X.env.qual++"<lambda>") params (.Tuple [.Call (.Name "len" p1) [.Name y p2] [] p3,.Name y p4] x1 tp) scope [] ((X.mg "__name__").getD .none) c' ctv) e)
      refine PyProof.Rows.kws_nil ?_
      rw[hnm]
      refine mB I3 (g.seq hq1) hc.1 (fun z t hz=>?_) (q1 _ g)
      exact NhSG.o9 (BJ I3 hl) hroom (gE _ rfl) (by rw[hq];exact hrec.keeps fun b o e=>dI _ e) (pf (hc.2 z hz)) (hbind _ _ _ _ _ _) sc1 fF sc3 sc4 sc5 sc6 hdy
     |some cv=>
      obtain⟨c',rfl,ho,hrec⟩:=hit lp cv hca
      refine PySem.W.kla_makeFunctionHit hcl I1.ok.glob (I1.mod.glob.keeps I1.bk) hcode C hps ht hca hbA fun ctv h' tk hx hsz=>?_
      have I3:=I1.kept (t':=tk) (fun b o e=>dI (PySem.W.kla_obj "<lambda>" (X.env.qual++"<lambda>") params (.Tuple [.Call (.Name "len" p1) [.Name y p2] [] p3,.Name y p4] x1 tp) scope [] ((X.mg "__name__").getD .none) c' ctv) (hx b o e))
      refine PyProof.Rows.kws_nil ?_
      rw[hnm]
      refine mB I3 hq1 hc.1 (fun z t hz=>?_) (q1 _ (Same.refl _))
      exact NhSG.o9 (BJ I3 hl) hroom (gE _ rfl) (by rw[hq];exact hrec.keeps fun b o e=>dI _ (hx b o e)) (pf (hc.2 z hz)) (hbind _ _ _ _ _ _) sc1 fF sc3 sc4 sc5 sc6 hdy
  ·cases e3
 ·cases e2
end
structure DefT (K:Frag) (mg:Str→Option Value) (x:Str) (st:Stmt) (ps:List Str) (c P:Addr):Prop where
 ex:∃(f:Addr) (oc:Value) (od:Option Addr) (kV doc pm:Value) (an:Option Addr) (ct:Value) (osl:Array (Option Value)),
  K.lookup f=some ⟨oc,od,.func (fnOf x x (cL st) (bh st) (ag st) .none kV doc pm an (.ref c) ct),osl⟩∧codeIn K (.ref c) x=true∧keepIn K (.ref f)=true∧mg x=some (.ref f)∧
   Binds K (fnOf x x (cL st) (bh st) (ag st) .none kV doc pm an (.ref c) ct) ps []
 hd:codeHdIn K c P=true
 tp:uh K=some P
theorem ownT{P:Program}{w:World}{K:Frag}{mg:Str→Option Value}{base:Heap}{x:Str}{st:Stmt}{N ps:List Str}{k a n:Nat}{g:cR}{c T:Addr}(D:DefT K mg x st ps c T)(S:FnScope N ps (ag st))(hpa:ps.length=a)(hNn:N.length=n)(hps:a≤n)
  (hbody:∀(f:Addr) (A:Around) (outer:List Env) (s:Shared) (H:Hp) (E:XK),Room k (A.deeper (PyProof.Rows.envOfC x (ag st) s.heap.objs.size f (.ref c)))→
   rh (g9 pU P w K mg base N x (ag st) f (.ref c) A outer s H E).nox (bh st) g):Own P w K mg base (k+1) x ps (dD K (eZ a n g)):=by
 subst hpa hNn
 obtain⟨f,oc,od,kV,doc,pm,an,ct,osl,lk,hcd,kp,hm,hb⟩:=D.ex
 refine⟨f,_,yo lk hcd S (fun vs H Q E h=>?_) (fun A outer s H vs Q E hr h=>?_),hb,hm,kp⟩
 ·obtain⟨ds,r,e,rp,_⟩:=h
  unfold eZ at e
  split at e
  ·rename_i hl
   rw[rp.len];exact hl
  ·cases e
 obtain⟨ds,r,e,rp,q⟩:=h
 unfold eZ at e
 split at e
 ·rename_i hl
  refine⟨_,(hbody f A outer s H E hr).nox,?_⟩
  obtain⟨⟨E',fl⟩,e1,e⟩:=Za.mp e
  refine⟨H,bG N.length ds,[],[],E',fl,⟨H,[],j_ rp (by omega)⟩,rfl,e1,?_⟩
  cases fl with
  |nx=>
   cases e
   rintro σ' H' ⟨F',A',fr'⟩
   exact q _ _ (fr'.bf.trans fr'.fh) .non
  |bk=>cases e
  |ct=>cases e
  |rt r'=>
   rintro σ' v H' ⟨F',A',fr'⟩
   obtain⟨s1,s2⟩:=fr'.resultO e
   exact q v H' s1 s2
 ·cases e
theorem vx {K:Frag} {f c P:Addr} {oc occ:Value} {od odc:Option Addr} {fd:FuncData} {sl slc:Array (Option Value)} {vs:Array Value} (a:nsIn K mainGlobals "in_told_order"=some (some (.ref f))) (l:K.lookup f=some ⟨oc,od,.func fd,sl⟩) (hc:fd.code=.ref c)
  (lc:K.lookup c=some ⟨occ,odc,.fields vs,slc⟩) (hv:(vs[11]? :Option Value)=some (.ref P)):uh K=some P:=by
 unfold uh
 rw[a]
 simp only[l,hc,lc,hv]
theorem vz {K:Frag} {h:Heap} {f c P:Addr} {oc occ:Value} {od odc:Option Addr} {fd:FuncData} {sl slc:Array (Option Value)} {vs:Array Value} (X:K.In h) (a:nsIn K mainGlobals "in_told_order"=some (some (.ref f))) (l:K.lookup f=some ⟨oc,od,.func fd,sl⟩) (hc:fd.code=.ref c)
  (lc:K.lookup c=some ⟨occ,odc,.fields vs,slc⟩) (hv:(vs[11]? :Option Value)=some (.ref P)) (hd:codeHdIn K c P=true) (hn:K.lookup P=none) (ht:h.get? P=some (tabObj #[])):rH K h:=fun b q e=>by
 have tp:=vx a l hc lc hv
 unfold jS at e
 split at e
 ·rename_i hb
  rw[tp]at hb
  cases hb
  exact⟨ht,⟨c,PySem.W.codeHd_of_K X hd⟩,hn⟩
 ·cases e
end PL
namespace NhFam
abbrev Tx:=List Nat
def Srt(w:Tx):Prop:=w.Pairwise (· < ·)
def le(v w:Tx):Prop:=∀x∈v,x∈w
instance (v w:Tx):Decidable (le v w):=inferInstanceAs (Decidable (∀x∈v,x∈w))
theorem le.refl(v:Tx):le v v:=fun _ h=>h
theorem le.trans{u v w:Tx}(a:le u v)(b:le v w):le u w:=fun x h=>b x (a x h)
def eO(U w:Tx):Prop:=Srt w∧le w U
theorem Srt.nodup{w:Tx}(h:Srt w):w.Nodup:=h.imp fun h=>eT h
theorem c_:∀{w v:Tx},Srt v→Srt w→le v w→v.Sublist w
 |[],v,_,_,h=>by
  cases v with
  |nil=>exact .slnil
  |cons x v=>cases h x (f_ ..)
 |y::w,v,hv,hw,h=>by
  cases v with
  |nil=>exact List.nil_sublist _
  |cons x v=>
   have hw':=List.pairwise_cons.mp hw
   have hv':=List.pairwise_cons.mp hv
   by_cases e:x=y
   ·subst e
    refine(c_ hv'.2 hw'.2 fun z hz=>?_).cons_cons _
    rcases Zap.mp (h z (fD _ hz))with q |q
    ·have:=hv'.1 z hz;omega
    ·exact q
   ·have hx:x∈w:=(Zap.mp (h x (f_ ..))).resolve_left e
    have lt:=hw'.1 x hx
    refine(c_ hv hw'.2 fun z hz=>?_).cons _
    rcases Zap.mp (h z hz)with q |q
    ·subst q
     rcases Zap.mp hz with q |q
     ·omega
     ·have:=hv'.1 z q;omega
    ·exact q
theorem Srt.ext{v w:Tx}(hv:Srt v)(hw:Srt w)(a:le v w)(b:le w v):v=w:=
 (c_ hv hw a).eq_of_length (Nat.le_antisymm (c_ hv hw a).length_le (c_ hw hv b).length_le)
theorem vA{v w:Tx}(hv:Srt v)(hw:Srt w)(a:le v w)(n:v≠w):v.length < w.length:=by
 have s:=c_ hv hw a
 rcases Nat.lt_or_ge v.length w.length with h |h
 ·exact h
 ·exact absurd (s.eq_of_length (Nat.le_antisymm s.length_le h)) n
def key(w:Tx):NhSG.Ky:=((w.length:Int),w)
def gU(v w:Tx):Prop:=NhSG.eN (key v) (key w)=true
theorem qD{v w:Tx}(h:v.length < w.length):gU v w:=NhSG.ltKy_iff.mpr (.inl (by simp only[key];omega))
theorem kO(v:Tx):¬gU v v:=fun h=>by
 have:=(NhSG.dR default).irrefl (key v)
 unfold gU at h
 rw[show NhSG.eN (key v) (key v)=false from this]at h
 cases h
theorem mC{v w:Tx}(h1:¬gU v w)(h2:¬gU w v):v=w:=by
 have h:=(NhSG.dR default).total (key v) (key w) (by simpa[gU]using h1) (by simpa[gU]using h2)
 exact congrArg Prod.snd h
theorem mD{u v w:Tx}(a:gU u v)(b:gU v w):gU u w:=(NhSG.dR default).trans _ _ _ a b
theorem mE{v w:Tx}(a:gU v w):¬gU w v:=fun b=>kO v (mD a b)
def up(F:List Tx)(w:Tx):Prop:=∃v∈F,le v w
def Min(U:Tx)(f:Tx→Prop)(w:Tx):Prop:=eO U w∧f w∧∀v,eO U v→f v→le v w→v=w
structure Told (U:Tx) (L:List Tx) (f:Tx→Prop):Prop where
 srt:L.Pairwise gU
 mem:∀w,w∈L↔Min U f w
def vB(U:Tx)(f:Tx→Prop):Prop:=∀v w,eO U v→eO U w→le v w→f v→f w
theorem kP{U:Tx}{f:Tx→Prop}:∀(n:Nat) (w:Tx),w.length≤n→eO U w→f w→∃v,Min U f v∧le v w
 |n,w,hn,hw,hf=>by
  by_cases h:∀v,eO U v→f v→le v w→v=w
  ·exact⟨w,⟨hw,hf,h⟩,le.refl w⟩
  ·obtain⟨v,h⟩:=Classical.not_forall.mp h
   obtain⟨v1,h⟩:=Classical.not_imp.mp h
   obtain⟨v2,h⟩:=Classical.not_imp.mp h
   obtain⟨v3,v4⟩:=Classical.not_imp.mp h
   have:=vA v1.1 hw.1 v3 v4
   cases n with
   |zero=>omega
   |succ n=>
    obtain⟨u,a,b⟩:=kP n v (by omega) v1 v2
    exact⟨u,a,b.trans v3⟩
theorem Told.sub{U:Tx}{L:List Tx}{f:Tx→Prop}(h:Told U L f):∀w∈L,eO U w:=fun w hw=>((h.mem w).mp hw).1
theorem Told.up_iff{U:Tx}{L:List Tx}{f:Tx→Prop}(h:Told U L f)(m:vB U f){w:Tx}(hw:eO U w):up L w↔f w:=by
 constructor
 ·rintro⟨v,hv,l⟩
  have:=(h.mem v).mp hv
  exact m v w this.1 hw l this.2.1
 ·intro hf
  obtain⟨v,a,b⟩:=kP w.length w (dw _) hw hf
  exact⟨v,(h.mem v).mpr a,b⟩
theorem Min.congr{U:Tx}{f g:Tx→Prop}(h:∀w,eO U w→(f w↔g w)){w:Tx}:Min U f w↔Min U g w:=by
 constructor
 ·rintro⟨a,b,c⟩;exact⟨a,(h w a).mp b,fun v v1 v2 v3=>c v v1 ((h v v1).mpr v2) v3⟩
 ·rintro⟨a,b,c⟩;exact⟨a,(h w a).mpr b,fun v v1 v2 v3=>c v v1 ((h v v1).mp v2) v3⟩
theorem Told.congr{U:Tx}{L:List Tx}{f g:Tx→Prop}(a:Told U L f)(h:∀w,eO U w→(f w↔g w)):Told U L g:=⟨a.srt,fun w=>(a.mem w).trans (Min.congr h)⟩
theorem gN{L:List Tx}(h:L.Pairwise gU):L.Nodup:=h.imp fun {a b} h e=>by subst e;exact kO a h
theorem vC{L L':List Tx}(a:L.Pairwise gU)(b:L'.Pairwise gU)(h:∀w,w∈L↔w∈L'):L=L':=
 ((List.perm_ext_iff_of_nodup (gN a) (gN b)).mpr h).eq_of_pairwise (fun x y _ _ p q=>absurd q (mE p)) a b
theorem Told.uniq{U:Tx}{L L':List Tx}{f g:Tx→Prop}(a:Told U L f)(b:Told U L' g)(h:∀w,eO U w→(f w↔g w)):L=L':=
 vC a.srt b.srt fun w=>(a.mem w).trans ((Min.congr h).trans (b.mem w).symm)
theorem rR(U:Tx)(F:List Tx):vB U (up F):=fun v w _ _ l ⟨u,hu,h⟩=>⟨u,hu,h.trans l⟩
theorem vD{U:Tx}{F:List Tx}(hF:∀v∈F,eO U v){w:Tx}:Min U (up F) w↔w∈F∧∀v∈F,le v w→v=w:=by
 constructor
 ·rintro⟨a,⟨v,hv,l⟩,c⟩
  have e:=c v (hF v hv) ⟨v,hv,le.refl v⟩ l
  subst e
  exact⟨hv,fun u hu l=>c u (hF u hu) ⟨u,hu,le.refl u⟩ l⟩
 ·rintro⟨a,b⟩
  refine⟨hF w a,⟨w,a,le.refl w⟩,fun v hv ⟨u,hu,l⟩ lv=>?_⟩
  have e:=b u hu (l.trans lv)
  subst e
  exact hv.1.ext (hF u hu).1 lv l
def fM(K:List Tx):List Tx→List Tx
 |[]=>K
 |w::r=>if K.any (fun k=>decide (le k w))then fM K r else fM (K++[w]) r
theorem iq:∀(S K Pre:List Tx),(∀v∈Pre++S,Srt v)→(∀v∈Pre,∃k∈K,le k v)→(∀k∈K,k∈Pre)→(∀v∈Pre,∀w∈S,¬gU w v)→S.Pairwise (fun a b=>¬gU b a)→
  (∀k∈K,∀v∈Pre,le v k→v=k)→K.Pairwise gU→(fM K S).Pairwise gU∧∀w,w∈fM K S↔w∈Pre++S∧∀v∈Pre++S,le v w→v=w
 |[],K,Pre,hs,h1,h2,h3,h4,h5,h6=>by
  refine⟨h6,fun w=>?_⟩
  simp only[fM,List.append_nil]
  refine⟨fun hw=>⟨h2 w hw,h5 w hw⟩,fun⟨a,b⟩=>?_⟩
  obtain⟨k,hk,l⟩:=h1 w a
  rw[←b k (h2 k hk) l]
  exact hk
 |w::S,K,Pre,hs,h1,h2,h3,h4,h5,h6=>by
  have e:Pre++w::S=(Pre++[w])++S:=by simp
  have h4':=List.pairwise_cons.mp h4
  have sw:Srt w:=hs w (by simp)
  have back:∀k∈K,le w k→w=k:=fun k hk l=>Classical.byContradiction fun n=>h3 k (h2 k hk) w (by simp) (qD (vA sw (hs k (by simp[h2 k hk])) l n))
  have o3:∀v∈Pre++[w],∀u∈S,¬gU u v:=fun v hv u hu=>by
   rcases Zao.mp hv with q |q
   ·exact h3 v q u (fD _ hu)
   ·rw[Zaf.mp q];exact h4'.1 u hu
  rw[e]at hs ⊢
  by_cases h:K.any (fun k=>decide (le k w))=true
  ·rw[fM,if_pos h]
   obtain⟨k0,hk0,l0⟩:=List.any_eq_true.mp h
   refine iq S K (Pre++[w]) hs (fun v hv=>?_) (fun k hk=>by simp[h2 k hk]) o3 h4'.2 (fun k hk v hv l=>?_) h6
   ·rcases Zao.mp hv with q |q
    ·exact h1 v q
    ·rw[Zaf.mp q];exact⟨k0,hk0,of_decide_eq_true l0⟩
   ·rcases Zao.mp hv with q |q
    ·exact h5 k hk v q l
    ·rw[Zaf.mp q]at l ⊢;exact back k hk l
  ·rw[fM,if_neg h]
   have no:∀k∈K,¬le k w:=fun k hk l=>h (List.any_eq_true.mpr ⟨k,hk,decide_eq_true l⟩)
   refine iq S (K++[w]) (Pre++[w]) hs (fun v hv=>?_) (fun k hk=>?_) o3 h4'.2 (fun k hk v hv l=>?_) ?_
   ·rcases Zao.mp hv with q |q
    ·obtain⟨k,hk,l⟩:=h1 v q;exact⟨k,by simp[hk],l⟩
    ·rw[Zaf.mp q];exact⟨w,by simp,le.refl w⟩
   ·rcases Zao.mp hk with q |q
    ·simp[h2 k q]
    ·simp[Zaf.mp q]
   ·rcases Zao.mp hk with p |p <;> rcases Zao.mp hv with q |q
    ·exact h5 k p v q l
    ·rw[Zaf.mp q]at l ⊢;exact back k p l
    ·rw[Zaf.mp p]at l ⊢
     obtain⟨k',hk',l'⟩:=h1 v q
     exact absurd (l'.trans l) (no k' hk')
    ·rw[Zaf.mp p,Zaf.mp q]
   ·refine List.pairwise_append.mpr ⟨h6,List.pairwise_singleton _ _,fun k hk u hu=>?_⟩
    rw[Zaf.mp hu]
    refine Classical.byContradiction fun n=>no k hk ?_
    rw[mC n (h3 k (h2 k hk) w (by simp))]
    exact le.refl w
def ft(F:List Tx):List Tx:=F.mergeSort fun a b=> !NhSG.eN (key b) (key a)
theorem sortT_mem{F:List Tx}{w:Tx}:w∈ft F↔w∈F:=(List.mergeSort_perm F _).mem_iff
theorem mF(F:List Tx):(ft F).Pairwise fun a b=>¬gU b a:=by
 have h:=List.pairwise_mergeSort (le:=fun a b=> !NhSG.eN (key b) (key a)) (fun a b c h1 h2=>by
  have h1':¬gU b a:=by simpa[gU]using h1
  have h2':¬gU c b:=by simpa[gU]using h2
  have:¬gU c a:=fun z=>by
   by_cases q:gU a b
   ·exact h2' (mD z q)
   ·rw[mC q h1']at z;exact h2' z
  simpa[gU]using this) (fun a b=>by
  by_cases q:NhSG.eN (key b) (key a)=true
  ·have:¬gU a b:=mE q
   have:NhSG.eN (key a) (key b)=false:=by simpa[gU]using this
   simp[this]
  ·simp[Bool.not_eq_true _▸q]) F
 exact h.imp fun {a b} h=>by simpa[gU]using h
def aG(F:List Tx):List Tx:=fM [] (ft F)
theorem fu{U:Tx}{F:List Tx}(hF:∀v∈F,eO U v):Told U (aG F) (up F):=by
 obtain⟨a,b⟩:=iq (ft F) [] [] (fun v hv=>(hF v (sortT_mem.mp (by simpa using hv))).1) (fun v hv=>by cases hv) (fun v hv=>by cases hv) (fun v hv=>by cases hv) (mF F) (fun v hv=>by cases hv) .nil
 refine⟨a,fun w=>(b w).trans ?_⟩
 rw[vD hF]
 simp only[Z8,sortT_mem]
def comp(U w:Tx):Tx:=U.filter fun x=> !decide (x∈w)
theorem comp_mem{U w:Tx}{x:Nat}:x∈comp U w↔x∈U∧x∉w:=by simp[comp]
theorem kQ{U w:Tx}(hU:Srt U):eO U (comp U w):=⟨hU.filter _,fun x hx=>(comp_mem.mp hx).1⟩
theorem tP{U w:Tx}(hU:Srt U)(hw:eO U w):comp U (comp U w)=w:=by
 refine(kQ hU).1.ext hw.1 (fun x hx=>?_) fun x hx=>?_
 ·obtain⟨a,b⟩:=comp_mem.mp hx
  exact Classical.byContradiction fun n=>b (comp_mem.mpr ⟨a,n⟩)
 ·exact comp_mem.mpr ⟨hw.2 x hx,fun z=>(comp_mem.mp z).2 hx⟩
def vE(U:Tx)(f:Tx→Prop)(w:Tx):Prop:=¬f (comp U w)
def cP(F:List Tx)(w:Tx):Prop:=∀v∈F,∃x∈v,x∈w
theorem eU{U:Tx}{F:List Tx}(hF:∀v∈F,eO U v){w:Tx}:cP F w↔vE U (up F) w:=by
 constructor
 ·rintro h ⟨v,hv,l⟩
  obtain⟨x,hx,hw⟩:=h v hv
  exact(comp_mem.mp (l x hx)).2 hw
 ·intro h v hv
  refine Classical.byContradiction fun n=>h ⟨v,hv,fun x hx=>comp_mem.mpr ⟨(hF v hv).2 x hx,fun z=>n ⟨x,hx,z⟩⟩⟩
theorem qE{U V:Tx}{f:Tx→Prop}{L:List Tx}(hU:Srt U)(hV:Srt V)(l:le V U)(m:vB U f)(h:∀w,eO U w→f w→f (w.filter fun x=>decide (x∈V)))(t:Told V L f):Told U L f:=by
 refine⟨t.srt,fun w=>(t.mem w).trans ?_⟩
 have up':∀{w},eO V w→eO U w:=fun a=>⟨a.1,a.2.trans l⟩
 have cut:∀{w},eO U w→eO V (w.filter fun x=>decide (x∈V)):=fun a=>⟨a.1.filter _,fun x hx=>by simpa using(List.mem_filter.mp hx).2⟩
 have cl:∀w:Tx,le (w.filter fun x=>decide (x∈V)) w:=fun w x hx=>(List.mem_filter.mp hx).1
 constructor
 ·rintro⟨a,b,c⟩
  refine⟨up' a,b,fun v v1 v2 v3=>?_⟩
  have e:=c _ (cut v1) (h v v1 v2) ((cl v).trans v3)
  refine v1.1.ext a.1 v3 ?_
  rw[←e]
  exact cl v
 ·rintro⟨a,b,c⟩
  have e:=c _ (up' (cut a)) (h w a b) (cl w)
  rw[←e]
  refine⟨cut a,h w a b,fun v v1 v2 v3=>?_⟩
  rw[e]at v3 ⊢
  exact c v (up' v1) v2 v3
end NhFam
namespace NhFam
def jv(w:Tx):List Tx:=w.foldl (fun acc a=>acc++acc.map (· ++[a])) [[]]
theorem pi:∀(V:Tx) (acc:List Tx) (w:Tx),w∈V.foldl (fun acc a=>acc++acc.map (· ++[a])) acc↔∃u∈acc,∃t,t.Sublist V∧w=u++t
 |[],acc,w=>by
  constructor
  ·intro h;exact⟨w,h,[],.slnil,by simp⟩
  ·rintro⟨u,hu,t,ht,rfl⟩
   have:t=[]:=by simpa using ht
   subst this
   simpa using hu
 |a::V,acc,w=>by
  rw[List.foldl_cons,pi V]
  constructor
  ·rintro⟨u,hu,t,ht,rfl⟩
   rcases Zao.mp hu with q |q
   ·exact⟨u,q,t,ht.cons _,rfl⟩
   ·obtain⟨v,hv,rfl⟩:=List.mem_map.mp q
    exact⟨v,hv,a::t,ht.cons_cons _,by simp⟩
  ·rintro⟨u,hu,t,ht,rfl⟩
   cases ht with
   |cons _ h=>exact⟨u,by simp[hu],t,h,rfl⟩
   |cons_cons _ h=>exact⟨u++[a],by simp[hu],_,h,by simp⟩
theorem iU{V:Tx}(hV:Srt V){w:Tx}:w∈jv V↔eO V w:=by
 unfold jv
 rw[pi]
 constructor
 ·rintro⟨u,hu,t,ht,rfl⟩
  rw[Zaf.mp hu,List.nil_append]
  exact⟨List.Pairwise.sublist ht hV,fun x hx=>ht.subset hx⟩
 ·intro h
  exact⟨[],by simp,w,c_ h.1 hV h.2,rfl⟩
theorem kR(V:Tx):(jv V).length=2 ^ V.length:=by
 have key:∀(V:Tx) (acc:List Tx),(V.foldl (fun acc a=>acc++acc.map (· ++[a])) acc).length=acc.length*2 ^ V.length:=fun V=>by
  induction V with
  |nil=>intro acc;simp
  |cons a V ih=>
   intro acc
   rw[List.foldl_cons,ih,List.length_append,dv,List.length_cons,Nat.pow_succ,←Nat.two_mul,Nat.mul_comm 2,Nat.mul_assoc,Nat.mul_comm 2]
 unfold jv
 rw[key]
 simp
def gf(F:List Tx)(w:Tx):Bool:=F.all fun v=> !decide (∀x∈v,x∉w)
theorem tQ{F:List Tx}{w:Tx}:gf F w=true↔cP F w:=by
 unfold gf cP
 rw[List.all_eq_true]
 refine⟨fun h v hv=>?_,fun h v hv=>?_⟩
 ·have:=h v hv
  simp only[Bool.not_eq_true',decide_eq_false_iff_not]at this
  obtain⟨x,h⟩:=Classical.not_forall.mp this
  obtain⟨a,b⟩:=Classical.not_imp.mp h
  exact⟨x,a,Classical.not_not.mp b⟩
 ·obtain⟨x,a,b⟩:=h v hv
  simp only[Bool.not_eq_true',decide_eq_false_iff_not]
  exact fun z=>z x a b
theorem vF{U V:Tx}{f:Tx→Prop}{G:List Tx}(hU:Srt U)(hV:Srt V)(l:le V U)(m:vB U f)(hG:∀w,w∈G↔eO V w∧f w)(h:∀w,eO U w→f w→f (w.filter fun x=>decide (x∈V))):Told U (aG G) f:=by
 refine qE hU hV l m h ((fu fun v hv=>((hG v).mp hv).1).congr fun w hw=>?_)
 constructor
 ·rintro⟨v,hv,q⟩
  obtain⟨a,b⟩:=(hG v).mp hv
  exact m v w ⟨a.1,a.2.trans l⟩ ⟨hw.1,hw.2.trans l⟩ q b
 ·intro q
  exact⟨w,(hG w).mpr ⟨hw,q⟩,le.refl w⟩
theorem pj{U:Tx}{F:List Tx}(hF:∀v∈F,eO U v){w:Tx}:cP (aG F) w↔cP F w:=by
 have t:=fu hF
 constructor
 ·intro h v hv
  obtain⟨k,hk,l⟩:=(t.up_iff (rR U F) (hF v hv)).mpr ⟨v,hv,le.refl v⟩
  obtain⟨x,a,b⟩:=h k hk
  exact⟨x,l x a,b⟩
 ·intro h v hv
  exact h v ((vD hF).mp ((t.mem v).mp hv)).1
def jO(F:List Tx)(V:Tx):List Tx:=aG ((jv V).filter (gf (aG F)))
theorem tR{F:List Tx}{V w:Tx}(hF:∀v∈F,le v V)(h:cP F w):cP F (w.filter fun x=>decide (x∈V)):=fun v hv=>by
 obtain⟨x,a,b⟩:=h v hv
 exact⟨x,a,List.mem_filter.mpr ⟨b,decide_eq_true (hF v hv x a)⟩⟩
theorem fN{U V:Tx}{F:List Tx}(hU:Srt U)(hV:Srt V)(l:le V U)(hF:∀v∈F,eO U v)(hFV:∀v∈F,le v V):Told U (jO F V) (vE U (up F)):=by
 refine(vF (f:=cP F) hU hV l (fun v w _ _ q h u hu=>?_) (fun w=>?_) fun w _ h=>tR hFV h).congr fun w hw=>eU hF
 ·obtain⟨x,a,b⟩:=h u hu
  exact⟨x,a,q x b⟩
 ·rw[List.mem_filter,iU hV,tQ,pj hF]
def gi:Tx→Nat→Tx
 |[],_=>[]
 |x::U,m=>if m % 2=1 then x::gi U (m / 2)else gi U (m / 2)
theorem gw:∀(U:Tx) (m:Nat),(gi U m).Sublist U
 |[],_=>.slnil
 |x::U,m=>by
  unfold gi
  split
  ·exact(gw U _).cons_cons _
  ·exact(gw U _).cons _
theorem vG{U:Tx}(hU:Srt U)(m:Nat):eO U (gi U m):=⟨List.Pairwise.sublist (gw U m) hU,fun x hx=>(gw U m).subset hx⟩
end NhFam
namespace L2
open PySem PySem.Spec PyProof.Rows
section
variable {X:Cx} {n:Nat}
def AJ(X:Cx)(n:Nat)(e:Expr)(t:TE):Prop:=∀(pins:List (Addr×Obj)) (s:Shared) (σ:St) (H:Hp) (Q:VK),n≤s.toks→Inv X pins σ H s→t σ H Q→wpAny (model X.prog X.w) X.A (eval e X.env) (EP X pins σ Q) X.xe s
def xC(X:Cx)(n:Nat)(e:Expr)(t:TT):Prop:=∀(pins:List (Addr×Obj)) (s:Shared) (σ:St) (H:Hp) (Q:Bool→Hp→Prop),n≤s.toks→Inv X pins σ H s→t σ H Q→wpAny (model X.prog X.w) X.A (isTrue e X.env (eval e X.env)) (TP X pins σ Q) X.xe s
def PWT(X:Cx)(n:Nat)(e:Expr)(t:TT):Prop:=∀(whole:Sem Value) (pins:List (Addr×Obj)) (s:Shared) (σ:St) (H:Hp) (Q:Bool→Hp→Prop),n≤s.toks→Inv X pins σ H s→t σ H Q→wpAny (model X.prog X.w) X.A (isTrue e X.env whole) (TP X pins σ Q) X.xe s
def xD(X:Cx)(n:Nat)(st:Stmt)(t:TS):Prop:=∀(pins:List (Addr×Obj)) (s:Shared) (σ:St) (H:Hp) (D:Ends),n≤s.toks→Inv X pins σ H s→t D σ H→wpAny (model X.prog X.w) X.A (exec st X.env) (SP X pins D) X.xe s
def jY(X:Cx)(n:Nat)(st:List Stmt)(t:TS):Prop:=∀(pins:List (Addr×Obj)) (s:Shared) (σ:St) (H:Hp) (D:Ends),n≤s.toks→Inv X pins σ H s→t D σ H→wpAny (model X.prog X.w) X.A (execs st X.env) (SP X pins D) X.xe s
theorem eP{α:Type}{t:Sem α}{Q Q':α→Shared→Prop}{M:Model}{A:Around}{E:Value→Shared→Prop}{s:Shared}(hn:n≤s.toks)(h:wpAny M A t Q E s)(hQ:∀a s,n≤s.toks→Q a s→Q' a s):wpAny M A t Q' E s:=wpAny_mono (wpAny_toks_of hn h) (fun a s z=>hQ a s z.1 z.2) fun _ _ z=>z.2
theorem PE.tk{e:Expr}{t:TE}(h:PE X e t):AJ X n e t:=fun pins s σ H Q _ I z=>h pins s σ H Q I z
theorem PT.tk{e:Expr}{t:TT}(h:PT X e t):xC X n e t:=fun pins s σ H Q _ I z=>h pins s σ H Q I z
theorem PS.tk{st:Stmt}{t:TS}(h:PS X st t):xD X n st t:=fun pins s σ H D _ I z=>h pins s σ H D I z
theorem PSs.tk{st:List Stmt}{t:TS}(h:PSs X st t):jY X n st t:=fun pins s σ H D _ I z=>h pins s σ H D I z
theorem PWT.pt{e:Expr}{t:TT}(h:PWT X n e t):xC X n e t:=h _
theorem tS{st:Stmt}{aA:List Stmt}{t u:TS}(h1:xD X n st t)(h2:jY X n aA u):jY X n (st::aA) (AR t u):=by
 intro pins s σ H D hn I h
 refine wpAny_execs_cons (eP hn (h1 pins s σ H {D with nx:=u D} hn I h) fun f s1 n1 q=>?_)
 cases f with
 |next=>
  obtain⟨σ',H',I',q⟩:=q
  exact h2 pins s1 σ' H' D n1 I' q
 |ret v=>exact q
 |brk=>exact q
 |cont=>exact q
theorem vH{st:Stmt}{t:TS}(h1:xD X n st t):jY X n [st] t:=by
 intro pins s σ H D hn I h
 refine wpAny_execs_cons (eP hn (h1 pins s σ H D hn I h) fun f s1 n1 q=>?_)
 cases f with
 |next=>exact wpAny_execs_nil q
 |ret v=>exact q
 |brk=>exact q
 |cont=>exact q
theorem Ab{c:Expr}{a b:List Stmt}{tc:TT}{t u:TS}{pos:Pos}(hc:xC X n c tc)(ha:jY X n a t)(hb:jY X n b u):xD X n (.If c a b pos) (wA tc t u):=by
 intro pins s σ H D hn I h
 refine wpAny_If (eP hn (hc pins s σ H _ hn I h) fun d s1 n1 q=>?_)
 obtain⟨H1,I1,q1⟩:=q
 cases d with
 |true=>exact ha pins s1 σ H1 D n1 I1 q1
 |false=>exact hb pins s1 σ H1 D n1 I1 q1
inductive AtTurn (X:Cx) (n:Nat) (pins:List (Addr×Obj)) (fp:List Addr) (tn:Nat→Heap→Prop) (W:Nat→Nat→St→Hp→Prop) (left:Nat) (s:Shared):Prop
 |mk {i:Nat} {σ:St} {H:Hp} (bound:n≤s.toks) (inv:Inv X pins σ H s) (state:tn i s.heap) (apart:∀b∈fp,H b=none) (plan:W i left σ H):AtTurn X n pins fp tn W left s
theorem xE{tg iter:Expr}{body:List Stmt}{wi:TI}{g:TG}{tb:TS}{pos:Pos}(hp:PassesOwn (model X.prog X.w) X.A X.env X.xe)(calm:X.calm=true)(over:PI X tg iter wi)(name:PG X tg g)(turns:jY X n body tb)
  (hs:∀x,foldedSetIterable iter X.env x=pure x:=by intro _;rfl):xD X n (.For tg iter body [] pos) (sy wi g tb):=by
 intro pins s σ H D hn I h
 have begun:=over pins s σ H _ I h
 refine wpAny_For (eP hn begun fun _ _ b1 h1=>eP b1 h1 fun _ s2 b2 h2=>?_) hs
 rcases h2 with⟨it,fp,tn,J,H2,rfl,I2,T,st2,f2,W,⟨m0,w0⟩,plan⟩
 have fp_ok:∀H',(∀b∈fp,H' b=none)→∀b∈fp,g8 X pins H' b:=fun _ none b hb=>⟨none b hb,(f2 b hb).2⟩
 have dg:AtTurn X n pins fp tn W m0 s2:=⟨b2,I2,st2,fun b hb=>(f2 b hb).1,w0⟩
 refine codeAny_forLoop_any (AtTurn X n pins fp tn W) (fun left s3 here=>?_) m0 dg
 rcases here with @⟨i,σ3,H3,b3,I3,st3,fr3,w3⟩
 have fp3:=fp_ok H3 fr3
 cases plan i left σ3 H3 w3 with
 |inl over=>
  have last:=T.done X rfl rfl rfl calm i pins s3 σ3 H3 X.xe I3 fp3 st3 over.1
  refine wpAny_passesOwn hp (cr last fun r s4 told=>?_)
  cases told.1
  exact wpAny_execs_nil ⟨σ3,H3,told.2,over.2⟩
 |inr next=>
  obtain⟨go,N,fewer,step⟩:=next
  have item:=T.item X rfl rfl rfl calm i pins s3 σ3 H3 X.xe I3 fp3 st3 go
  refine wpAny_passesOwn hp (eP b3 item fun r s4 b4 got=>?_)
  obtain⟨u,rfl,keeps⟩:=got
  refine wpAny_passesOwn hp (eP b4 keeps fun _ s5 b5 kept=>?_)
  obtain⟨x,H5,I5,rx,yields,st5,fr5⟩:=kept
  have objs:=T.obj _ _ st5
  refine wpAny_passesOwn hp (eP b5 (name _ s5 σ3 H5 x u _ (I5.pinned (fp_ok H5 fr5) objs) rx (step x H5 yields)) fun _ s6 b6 named=>?_)
  obtain⟨σ6,H6,I6,q6⟩:=named
  have back:∀s7,n≤s7.toks→∀σ7 H7,Inv X (pins++gj fp s5.heap) σ7 H7 s7→N σ7 H7→∃m,m < left∧AtTurn X n pins fp tn W m s7:=fun s7 b7 σ7 H7 I7 k7=>by
   obtain⟨m,lt,w7⟩:=fewer σ7 H7 k7
   have pinned:∀b∈fp,∀o,s5.heap.get? b=some o→s7.heap.get? b=some o∧H7 b=none:=fun b hb o e=>
    let z:=I7.pin (b,o) (iD _ (iD _ (cG hb e)))
    ⟨z.1,z.2.1⟩
   refine⟨m,lt,b7,I7.unpinned,T.keep _ _ _ st5 fun b hb o e=>(pinned b hb o e).1,fun b hb=>?_,w7⟩
   obtain⟨o,e,_⟩:=objs b hb
   exact(pinned b hb o e).2
  refine wpAny_passesOwn hp (eP b6 (turns _ s6 σ6 H6 _ b6 I6 q6) fun f s7 b7 told=>?_)
  cases f with
  |next=>
   obtain⟨σ7,H7,I7,k7⟩:=told
   exact back s7 b7 σ7 H7 I7 k7
  |cont=>
   obtain⟨σ7,H7,I7,k7⟩:=told
   exact back s7 b7 σ7 H7 I7 k7
  |brk=>
   obtain⟨σ7,H7,I7,k7⟩:=told
   exact⟨σ7,H7,I7.unpinned,k7⟩
  |ret v=>
   obtain⟨y,σ7,H7,I7,ry,k7⟩:=told
   exact⟨y,σ7,H7,I7.unpinned,ry,k7⟩
end
end L2
namespace L2
open PySem PySem.Spec PyProof.Rows
def Strt{α:Type}:Sem α→Prop
 |.pure _=>True
 |.raise _=>True
 |.unsupported _=>True
 |.rule _ k=>Strt (k ())
 |.at _ k=>Strt (k ())
 |.load _ _ k=>∀o,Strt (k o)
 |.update _ _ _ k=>Strt (k ())
 |.loadIfAlive _ k=>∀o,Strt (k o)
 |.point _ k=>Strt (k ())
 |.alloc _ k=>∀a,Strt (k a)
 |.fresh k=>∀t,Strt (k t)
 |.handled _ k=>∀x,Strt (k x)
 |.stack k=>∀x,Strt (k x)
 |.ask k=>∀x,Strt (k x)
 |_=>False
theorem Strt.bind{α β:Type}{k:α→Sem β}(hk:∀a,Strt (k a)):∀{t:Sem α},Strt t→Strt (t >>= k)
 |.pure a,_=>hk a
 |.raise _,_=>trivial
 |.unsupported _,_=>trivial
 |.rule _ f,h=>Strt.bind hk (t:=f ()) h
 |.at _ f,h=>Strt.bind hk (t:=f ()) h
 |.load _ _ f,h=>fun o=>Strt.bind hk (t:=f o) (h o)
 |.update _ _ g f,h=>Strt.bind hk (t:=f ()) h
 |.loadIfAlive _ f,h=>fun o=>Strt.bind hk (t:=f o) (h o)
 |.point _ f,h=>Strt.bind hk (t:=f ()) h
 |.alloc _ f,h=>fun a=>Strt.bind hk (t:=f a) (h a)
 |.fresh f,h=>fun a=>Strt.bind hk (t:=f a) (h a)
 |.handled _ f,h=>fun a=>Strt.bind hk (t:=f a) (h a)
 |.stack f,h=>fun a=>Strt.bind hk (t:=f a) (h a)
 |.ask f,h=>fun a=>Strt.bind hk (t:=f a) (h a)
 |.finish _,h=>h.elim
 |.register _ _,h=>h.elim
 |.choose _ _ _,h=>h.elim
 |.os _ _ _,h=>h.elim
 |.call _ _ _ _ _,h=>h.elim
 |.newGen _ _,h=>h.elim
 |.genState _ _,h=>h.elim
 |.resume _ _ _ _,h=>h.elim
 |.yield _ _ _ _,h=>h.elim
 |.fork _ _,h=>h.elim
 |.thread _,h=>h.elim
 |.await _ _ _ _ _,h=>h.elim
theorem cW{α:Type}{M:Model}{Γ:PySem.Ctx}{Q Q':α→Pos→Shared→Prop}{E E':Value→Pos→Shared→Prop}:∀{t:Sem α} {p:Pos} {s:Shared},Strt t→Sem.wp M Γ t Q E p s→Sem.wp M Γ t Q' E' p s→Sem.wp M Γ t (fun a p s=>Q a p s∧Q' a p s) (fun a p s=>E a p s∧E' a p s) p s
 |.pure a,p,s,_,h,h'=>by rw[Sem.wp]at h h' ⊢;exact⟨h,h'⟩
 |.raise _,p,s,_,h,h'=>by rw[Sem.wp]at h h' ⊢;exact⟨h,h'⟩
 |.unsupported _,p,s,_,h,_=>by rw[Sem.wp]at h;exact h.elim
 |.rule _ f,p,s,t,h,h'=>by rw[Sem.wp]at h h' ⊢;exact cW (t:=f ()) t h h'
 |.at _ f,p,s,t,h,h'=>by rw[Sem.wp]at h h' ⊢;exact cW (t:=f ()) t h h'
 |.load _ _ f,p,s,t,h,h'=>by
  rw[Sem.wp]at h h' ⊢
  obtain⟨o,ho,h⟩:=h
  obtain⟨o',ho',h'⟩:=h'
  have e:o'=o:=Option.some.inj (ho'.symm.trans ho)
  subst e
  exact⟨o',ho,cW (t:=f o') (t o') h h'⟩
 |.update _ _ g f,p,s,t,h,h'=>by rw[Sem.wp]at h h' ⊢;exact⟨h.1,cW (t:=f ()) t h.2 h'.2⟩
 |.loadIfAlive _ f,p,s,t,h,h'=>by rw[Sem.wp]at h h' ⊢;exact cW (t:=f _) (t _) h h'
 |.point _ f,p,s,t,h,h'=>by rw[Sem.wp]at h h' ⊢;exact cW (t:=f ()) t h h'
 |.alloc _ f,p,s,t,h,h'=>by rw[Sem.wp]at h h' ⊢;exact cW (t:=f _) (t _) h h'
 |.fresh f,p,s,t,h,h'=>by rw[Sem.wp]at h h' ⊢;exact cW (t:=f _) (t _) h h'
 |.handled _ f,p,s,t,h,h'=>by rw[Sem.wp]at h h' ⊢;exact cW (t:=f _) (t _) h h'
 |.stack f,p,s,t,h,h'=>by rw[Sem.wp]at h h' ⊢;exact cW (t:=f _) (t _) h h'
 |.ask f,p,s,t,h,h'=>by rw[Sem.wp]at h h' ⊢;exact cW (t:=f _) (t _) h h'
 |.finish _,_,_,h,_,_=>h.elim
 |.register _ _,_,_,h,_,_=>h.elim
 |.choose _ _ _,_,_,h,_,_=>h.elim
 |.os _ _ _,_,_,h,_,_=>h.elim
 |.call _ _ _ _ _,_,_,h,_,_=>h.elim
 |.newGen _ _,_,_,h,_,_=>h.elim
 |.genState _ _,_,_,h,_,_=>h.elim
 |.resume _ _ _ _,_,_,h,_,_=>h.elim
 |.yield _ _ _ _,_,_,h,_,_=>h.elim
 |.fork _ _,_,_,h,_,_=>h.elim
 |.thread _,_,_,h,_,_=>h.elim
 |.await _ _ _ _ _,_,_,h,_,_=>h.elim
theorem kT{α:Type}{M:Model}{A:Around}{Q Q':α→Shared→Prop}{E E':Value→Shared→Prop}{t:Sem α}{s:Shared}(T:Strt t)(h:wpAny M A t Q E s)(h':wpAny M A t Q' E' s):wpAny M A t (fun a s'=>Q a s'∧Q' a s') (fun x s'=>E x s'∧E' x s') s:=fun Γ p hΓ=>cW T (h Γ p hΓ) (h' Γ p hΓ)
theorem qF(a:Addr)(x:Str)(v:Value):Strt (nsSet a x v):=by
 unfold nsSet
 refine Strt.bind (fun h=>Strt.bind (fun key=>Strt.bind (fun o=>?_) ?_) ?_) ?_
 ·split
  ·dsimp only
   split
   ·exact trivial
   ·exact trivial
  ·exact trivial
 ·exact fun o=>trivial
 ·unfold mkText
  exact fun t=>trivial
 ·unfold strHash
  exact fun t=>trivial
end L2
namespace L2
open PySem PySem.Spec PyProof.Rows
section
variable {X:Cx} {pins:List (Addr×Obj)} {σ:St} {H:Hp} {s:Shared}
def Ac(X:Cx)(P:Shared→Prop)(e:Expr)(t:TE):Prop:=∀(pins:List (Addr×Obj)) (s:Shared) (σ:St) (H:Hp) (Q:VK),P s→Inv X pins σ H s→t σ H Q→wpAny (model X.prog X.w) X.A (eval e X.env) (EP X pins σ Q) X.xe s
theorem pq{M:Model}{A:Around}{E:Value→Shared→Prop}{i:Nat}{x:Str}{v:V}{u:Value}(I:Inv X pins σ H s)(hN:X.N.Nodup)(hi:X.N[i]? =some x)(hk:X.env.scope.names.lookup x=some .local)(r:RelV v u):
  wpAny M A (storeName X.env x u) (fun _ s'=>Inv X pins (σ.set i (some v)) H s'∧s'.toks=s.toks+1∧∃m,s'.heap.Ns X.env.locals m∧m x=some u) E s:=by
 obtain⟨m,hn,_⟩:=id I.loc
 have hcls:(X.env.scope.kind ==.class||(X.env.scope.kind ==.module&&X.env.locals != X.env.globals))=false:=by rw[I.ok.kind];rfl
 have st:Strt (storeName X.env x u):=by
  rw[storeName_local hk hcls]
  exact qF _ _ _
 have a:=iE (M:=M) (A:=A) (E:=E) (Q:=fun _ s'=>Inv X pins (σ.set i (some v)) H s') I hN hi (.inl hk) r (fun s' I'=>I') (.inr hk)
 have b:=wpAny_storeName_local (M:=M) (A:=A) (E:=E) (v:=u) (Q:=fun _ s'=>s'.toks=s.toks+1∧∃m,s'.heap.Ns X.env.locals m∧m x=some u) hk hn (fun h' hn' _=>⟨rfl,_,hn',by simp⟩) hcls
 exact wpAny_mono (kT st a b) (fun _ _ z=>⟨z.1,z.2.1,z.2.2⟩) fun _ _ z=>z.1
theorem vI {it:Addr} {T:String} {x:Str} {t:Tok} {tg:Expr} {i:Nat} {E:Value→Shared→Prop} (hT:T="str_ascii_iterator"∨T="str_iterator") (I:Inv X pins σ H s) (f:g8 X pins H it) (st:s.heap.IsStrIter it T x t i) (hi:i < x.cps.toList.length):
  wpAny (model X.prog X.w) X.A (pyNext (.ref it)) (fun r s1=>r=some (Value.str ⟨#[x.cps.toList[i]]⟩ s.toks)∧wpAny (model X.prog X.w) X.A (letOwnedTupleGo tg (.ref it) (Value.str ⟨#[x.cps.toList[i]]⟩ s.toks)) (fun _ s2=>s2.toks=s.toks+1∧Inv X pins σ H s2∧s2.heap.IsStrIter it T x t (i+1)) E s1) E s:=by
 obtain⟨f0,f1,f2,f3,f4,f5⟩:=f
 have hx:x.cps[i]? =some x.cps.toList[i]:=by simp at hi;simp[hi]
 have fin:∀h':Heap,h'.IsStrIter it T x t (i+1)→Heap.SameBut it s.heap h'→(some (Value.str ⟨#[x.cps.toList[i]]⟩ s.toks)=some (Value.str ⟨#[x.cps.toList[i]]⟩ s.toks)∧wpAny (model X.prog X.w) X.A (letOwnedTupleGo tg (.ref it) (Value.str ⟨#[x.cps.toList[i]]⟩ s.toks)) (fun _ s2=>s2.toks=s.toks+1∧Inv X pins σ H s2∧s2.heap.IsStrIter it T x t (i+1)) E {s with heap:=h',toks:=s.toks+1}):=fun h' st' sb=>by
  have I1:Inv X pins σ H {s with heap:=h',toks:=s.toks+1}:=I.turned (t':=s.toks+1) (fun b o hb e=>(sb.2 b hb).trans e) f0 f1 f3 f4 f5
  obtain⟨o,e,c,d⟩:=id st'
  exact⟨rfl,oh (s:={s with heap:=h',toks:=s.toks+1}) e c d (by rcases hT with rfl |rfl <;> decide) ⟨rfl,I1,st'⟩⟩
 rcases hT with rfl |rfl
 ·exact wpAny_pyNext_ascii_item st hx fun h' st' sb=>fin h' st' sb
 ·exact wpAny_pyNext_wide_item st hx fun h' st' sb=>fin h' st' sb
def Cw(X:Cx)(n:Nat)(pins:List (Addr×Obj))(σ:St)(R:It→Hp→Prop)(itv:Value)(s2:Shared):Prop:=∃(it:Addr) (x:Str) (tk:Tok) (T:String) (H':Hp),itv=.ref it∧n≤s2.toks∧Inv X pins σ H' s2∧(T="str_ascii_iterator"∨T="str_iterator")∧s2.heap.IsStrIter it T x tk 0∧g8 X pins H' it∧R (AH x) H'
theorem Ad{n:Nat}{l:Expr}{tl:TE}(hl:PE X l tl)(pins:List (Addr×Obj))(s:Shared)(σ:St)(H:Hp)(R:It→Hp→Prop)(hn:n≤s.toks)(I:Inv X pins σ H s)(h:ql tl σ H R):wpAny (model X.prog X.w) X.A (eval l X.env) (fun v s1=>wpAny (model X.prog X.w) X.A (pyIter v) (Cw X n pins σ R) X.xe s1) X.xe s:=by
 refine eP hn (hl pins s σ H _ I h) fun v s1 n1 z=>?_
 obtain⟨y,H1,I1,r1,x,e,q⟩:=z
 subst e
 obtain⟨t,rfl⟩:=r1
 refine wpAny_pyIter_strU ⟨s1.heap.objs.size,x,t,strIterType x,H1,rfl,n1,I1.kept (t':=s1.toks) fun b o e=>dI _ e,?_,⟨_,gE _ rfl,rfl,rfl⟩,I1.fpOk (dw _) (I1.hok.fresh (dw _)),q⟩
 unfold strIterType
 split
 ·exact .inl rfl
 ·exact .inr rfl
end
end L2
namespace L2
open PySem PySem.Spec PyProof.Rows
section
variable {X:Cx} {P:Shared→Prop} {es:List Expr} {e:Expr} {t:TA} {te:TE}
def CL(X:Cx)(P:Shared→Prop)(es:List Expr)(t:TA):Prop:=∀(pos:Pos) (pins:List (Addr×Obj)) (s:Shared) (σ:St) (H:Hp) (Q:List V→Hp→Prop),P s→Inv X pins σ H s→t σ H Q→wpAny (model X.prog X.w) X.A (spliced (backTo pos (starEach es X.env))) (AP X pins σ Q) X.xe s
theorem rS {M:Model} {A:Around} {E:Value→Shared→Prop} {pins:List (Addr×Obj)} {s:Shared} {σ:St} {H:Hp} {i:Nat} {x:Str} {v:V} {pos:Pos} (I:Inv X pins σ H s) (e:σ[i]? =some (some v)) (hN:X.N[i]? =some x) (hv:wu X.env.scope x) (hd:(x == ("__debug__":Str))=false) (hcd:(x == ("__classdict__":Str))=false):
  wpAny M A (eval (.Name x pos) X.env) (fun u s'=>s'=s∧RelV v u∧∀m,X.env.scope.names.lookup x=some .local→s.heap.Ns X.env.locals m→m x=some u) E s:=by
 obtain⟨m,hn,hl⟩:=I.loc
 obtain⟨u,r,where_⟩:=hl i x v hN e hv
 cases where_ with
 |inl z=>exact wpAny_Name (wpAny_loadName_local I.ok.kind z.1 hn z.2 ⟨rfl,r,fun m' _ hn'=>(hn'.agree hn x).trans z.2⟩) hd
 |inr z=>
  obtain⟨hk,c,hc,hcell⟩:=z
  have no:X.env.scope.names.lookup x≠some .local:=fun l=>by
   have l':X.env.kindOf x=some .local:=l
   rcases hk with q |q <;> rw[q]at l' <;> cases l'
  cases hk with
  |inl hk=>exact wpAny_Name (wpAny_loadName_cell I.ok.kind hk hc hcell ⟨rfl,r,fun _ l=>absurd l no⟩) hd
  |inr hk=>exact wpAny_Name (wpAny_loadName_free I.ok.kind hk hc hcell ⟨rfl,r,fun _ l=>absurd l no⟩ hcd) hd
theorem Ae{k:Nat}{f:Str}{ps:List Str}{sp:Sp}{p pos:Pos}(D:Own X.prog X.w X.K X.mg X.base k f ps sp)(hr:Room k X.A)(hg:Gl X f)(ha:CL X P (e::es) t)
  (hdb:(f == ("__debug__":Str))=false) (he:starEach (e::es) X.env=(false,eval e X.env)::starEach es X.env) (hpl:(backTo pos (starEach es X.env)).any (·.1)=false):Ac X P (.Call (.Name f p) (e::es) [] pos) (kl sp [] E0 t):=by
 obtain⟨a,fd,F,b,m,kp⟩:=D.ex
 intro pins s σ H Q hP I z
 refine wpAny_Call_Name_kw (j5 I hg m ?_ hdb)
 refine callWith_K (h₀:=X.base) I.ok.mod.kin kp (cr (ha pos pins s σ H _ hP I z) fun us s1 w=>?_) he hpl
 obtain⟨vs,H1,I1,r,q⟩:=w
 exact⟨I1.kIn,uw F hr b .nil uC I1 r q⟩
def xF(ib ic:Nat):TE:=fun σ H Q=>∃x y,σ[ib]? =some (some (.str x))∧σ[ic]? =some (some (.str y))∧(y == ("":Str))=false∧x.length≤1000∧Q (.str (Txt.replace x y "")) H
end
end L2
namespace PL
open PySem PySem.Spec PyProof.Rows L2 Nh
def kU(f:aO):iJ:=fun E=>(f E).bind fun a=>(frz a.2 a.1).bind fun b=>match b.1 with
 |.str x=>some (eH x,b.2)
 |_=>none
section
variable {K:Frag} {X:Cx} {σ:L2.St} {H:Hp} {Q:VK}
theorem Af{m:Bool}{f:aO}{R:It→Hp→Prop}(z:ri K m (kU f) σ H R):ql (rd K m f) σ H R:=by
 obtain⟨B,E,xs,Xs,ds,E',fr,cl,e,q⟩:=z
 obtain⟨⟨s,E1⟩,e1,e⟩:=Za.mp e
 obtain⟨⟨d,E2⟩,e2,e⟩:=Za.mp e
 simp only at e
 split at e
 ·cases e
  refine⟨B,E,xs,Xs,s,E1,fr,cl,e1,fun v H1 fr1=>?_⟩
  obtain⟨F,A,fr1⟩:=fr1
  obtain⟨F2,A2,fr2⟩:=fr1.frz0 e2
  obtain⟨v',A1,ev,rfl,w,ew,r⟩:=fr2.ext (k:=0) rfl
  cases ev
  cases ew
  obtain⟨A3,fr3⟩:=fr2.pop
  cases r
  exact⟨_,rfl,q F2 _ _ fr2.bf ⟨F2,A3,fr3.raise⟩ oM⟩
 ·cases e
theorem rT{i:Nat}{v:V}{Q:L2.St→Hp→Prop}(z:rg K (aF i) v σ H Q):jF i v σ H Q:=by
 obtain⟨B,E,xs,Xs,d,E',⟨F,A,fr⟩,cl,e,q⟩:=z
 unfold aF at e
 split at e
 ·rename_i hi
  cases e
  obtain⟨A',fr'⟩:=fr.store rfl cl hi
  exact q _ _ ⟨F,A',fr'⟩
 ·cases e
theorem tT{tl:TE}{R R':It→Hp→Prop}(ht:∀Q Q':VK,(∀v H,Q v H→Q' v H)→tl σ H Q→tl σ H Q')(hR:∀J H,R J H→R' J H)(z:ql tl σ H R):ql tl σ H R':=ht _ _ (fun v H1 w=>let ⟨x,e,r⟩:=w;⟨x,e,hR _ _ r⟩) z
theorem rV{m:Bool}{f:aO}(Q Q':VK)(h:∀v H,Q v H→Q' v H)(z:rd K m f σ H Q):rd K m f σ H Q':=let ⟨B,E,xs,Xs,r,E',fr,cl,e,q⟩:=z;⟨B,E,xs,Xs,r,E',fr,cl,e,fun v H' w=>h v H' (q v H' w)⟩
end
end PL
namespace PL
open PySem PySem.Spec PyProof.Rows L2 Nh
def CM(X:Cx)(n:Nat)(e:Expr)(m:Bool)(f:aO):Prop:=AJ X n e (rd X.K m f)
def B4(X:Cx)(n:Nat)(e:Expr)(m:Bool)(f:gh):Prop:=xC X n e (rt X.K m f)
def BL(X:Cx)(n:Nat)(s:Stmt)(g:cR):Prop:=xD X n s (rs X.K g)
def pv(X:Cx)(n:Nat)(s:List Stmt)(g:cR):Prop:=jY X n s (rs X.K g)
section
variable {X:Cx} {n:Nat} {a b c:Expr} {aA:List Expr} {m m1 m2:Bool} {t u:gh} {pos:Pos}
theorem nP{st:Stmt}{t t':TS}(h:xD X n st t)(k:∀D σ H,t' D σ H→t D σ H):xD X n st t':=fun pins s σ H D hn I q=>h pins s σ H D hn I (k D σ H q)
theorem vJ{st:List Stmt}{t t':TS}(h:jY X n st t)(k:∀D σ H,t' D σ H→t D σ H):jY X n st t':=fun pins s σ H D hn I q=>h pins s σ H D hn I (k D σ H q)
end
section
variable {X:Cx} {n:Nat} {c:Expr} {a b:List Stmt} {st:Stmt} {aA:List Stmt} {m:Bool} {t:gh} {g h:cR} {pos:Pos}
theorem Ag(hc:B4 X n c m t)(ha:pv X n a g)(hb:pv X n b h):BL X n (.If c a b pos) (cF t g h):=nP (Ab hc ha hb) fun D σ H z=>by
 obtain⟨B,E,xs,Xs,E',fl,fr,cl,e,q⟩:=z
 obtain⟨⟨b1,E1⟩,e1,e⟩:=Za.mp e
 refine⟨B,E,xs,Xs,b1,E1,fr,fun _=>Calm.nil cl,e1,fun H1 fr1=>?_⟩
 cases b1 with
 |true=>exact(if_pos rfl).mpr ⟨B,E1,xs,Xs,E',fl,fr1,cl,e,q⟩
 |false=>exact(if_neg (by decide)).mpr ⟨B,E1,xs,Xs,E',fl,fr1,cl,e,q⟩
theorem kW(h1:BL X n st g):pv X n [st] g:=vH h1
theorem cM(h1:BL X n st g)(h2:pv X n aA h):pv X n (st::aA) (aX g h):=vJ (tS h1 h2) fun D σ H z=>qg z
end
theorem xG{X:Cx}{n:Nat}{tg iter:Expr}{body:List Stmt}{m:Bool}{it:iJ}{g:gb}{b:cR}{pos:Pos}(hp:PassesOwn (model X.prog X.w) X.A X.env X.xe)(hc:X.calm=true)(hi:IX X tg iter m it)(hg:GX X tg g)(hb:pv X n body b)
  (hs:∀x,foldedSetIterable iter X.env x=pure x:=by intro _;rfl):BL X n (.For tg iter body [] pos) (de it g b):=nP (xE hp hc hi hg hb hs) fun D σ H z=>by
 obtain⟨B,E,xs,Xs,E',fl,fr,cl,e,q⟩:=z
 obtain⟨⟨ds,E1⟩,e1,e⟩:=Za.mp e
 refine⟨B,E,xs,Xs,ds,E1,fr,fun _=>Calm.nil cl,e1,fun B' J H1 hB fr1 ok=>?_⟩
 refine⟨fun i mm σ' H'=>mm=ds.length - i∧i≤ds.length∧∃Ei,bL g b (ds.drop i) Ei=some (E',fl)∧Frm X.K B' σ' H' Ei xs Xs,⟨ds.length,by simp,Nat.zero_le _,E1,by simpa using e,fr1⟩,?_⟩
 rintro i mm σ' H' ⟨rfl,hi,Ei,ei,F,A,fri⟩
 obtain⟨go,stop⟩:=ok i (Same.refl _) fri
 by_cases hlt:i < ds.length
 ·obtain⟨d,ed⟩:∃d,ds[i]? =some d:=⟨ds[i],pS hlt⟩
  obtain⟨g1,yl⟩:=go d ed
  have edr:ds.drop i=d::ds.drop (i+1):=by
   rw[List.drop_eq_getElem_cons hlt]
   congr 1
   exact Option.some.inj ((pS hlt).symm.trans ed)
  rw[edr]at ei
  obtain⟨⟨E2,f2⟩,e2,ei⟩:=Za.mp ei
  obtain⟨E3,e3,e2⟩:=Za.mp e2
  refine .inr ⟨g1,fun σ2 H2=>∃Ej,bL g b (ds.drop (i+1)) Ej=some (E',fl)∧Frm X.K B' σ2 H2 Ej xs Xs,fun σ2 H2 ⟨Ej,ej,frj⟩=>⟨ds.length - (i+1),by omega,rfl,hlt,Ej,ej,frj⟩,fun x H2 y=>?_⟩
  refine⟨B',Ei,xs,Xs,d,E3,yl x H2 y,Still.nil cl,e3,fun σ3 H3 fr3=>?_⟩
  refine⟨B',E3,xs,Xs,E2,f2,fr3,cl,e2,?_⟩
  cases f2 with
  |nx=>exact fun σ4 H4 fr4=>⟨E2,ei,fr4⟩
  |ct=>exact fun σ4 H4 fr4=>⟨E2,ei,fr4⟩
  |bk=>cases ei;exact fun σ4 H4 fr4=>q _ _ (fr4.base hB)
  |rt r=>cases ei;exact fun σ4 v H4 fr4=>q _ _ _ (fr4.base hB)
 ·have e0:i=ds.length:=by omega
  refine .inl ⟨stop e0,?_⟩
  rw[e0,List.drop_length]at ei
  cases ei
  exact q _ _ (Frm.base ⟨F,A,fri⟩ hB)
section
variable {K:Frag} {X:Cx}
theorem xH{i:Nat}{m:Bool}{f:aO}{D:Ends}{σ:L2.St}{H:Hp}(z:rs K (aL i f) D σ H):y0 (rd K m f) (jF i) D σ H:=by
 obtain⟨B,E,xs,Xs,E',fl,fr,cl,e,q⟩:=z
 obtain⟨⟨s,E1⟩,e1,e⟩:=Za.mp e
 obtain⟨⟨s',E2⟩,e2,e⟩:=Za.mp e
 refine⟨B,E,xs,Xs,s,E1,fr,fun _=>Calm.nil cl,e1,fun v H1 ⟨F,A,fr1⟩=>?_⟩
 obtain⟨c1,F2,A2,fr2⟩:=fr1.settle cl e2
 simp only at e
 split at e
 ·rename_i hi
  cases e
  obtain⟨A3,fr3⟩:=fr2.store c1 (Still.nil cl) hi
  exact q _ _ ⟨F2,A3,fr3⟩
 ·cases e
theorem xI{i:Nat}{x:Str}{e:Expr}{m:Bool}{f:aO}{aA:List Stmt}{h:cR}{pos pos':Pos}(hN:X.N.Nodup)(hi:X.N[i]? =some x)(hk:X.env.scope.names.lookup x=some .local)(he:EX X e m f)(h2:pv X 1 aA h)(hs:swapsWith e (some (.Name x pos')) pos.line X.env=pure false):
  rh X (.Assign [.Name x pos'] e pos::aA) (aX (aL i f) h):=by
 intro pins s σ H D I z
 have z2:=xH (m:=m) (qg z)
 refine wpAny_execs_cons (wpAny_Assign_Name (cr (he pins s σ H _ I z2) fun v s1 w=>?_) hs)
 obtain⟨y,H1,I1,r1,q1⟩:=w
 refine cr (pq I1 hN hi hk r1) fun _ s2 w=>?_
 exact h2 pins s2 _ H1 D (by rw[w.2.1];omega) w.1 q1
end
end PL
namespace L2
open PySem PySem.Spec PyProof.Rows
section
variable {X:Cx} {pins:List (Addr×Obj)} {σ:St} {H:Hp} {s:Shared} {n:Nat} {nm:Str}
def gZ(n:Nat)(X:Cx)(x:Str)(s:Shared):Prop:=∃c y t,X.env.cells.lookup x=some c∧s.heap.IsCell c (some (.str y t))∧n≤t∧t < s.toks
theorem nQ{M:Model}{A:Around}{E:Value→Shared→Prop}{i:Nat}{x:Str}{v:V}{u:Value}(I:Inv X pins σ H s)(hN:X.N.Nodup)(hi:X.N[i]? =some x)(hk:X.env.scope.names.lookup x=some .cell)(hf:X.fn x=true)(r:RelV v u):
  wpAny M A (storeName X.env x u) (fun _ s'=>Inv X pins (σ.set i (some v)) H s'∧s'.toks=s.toks∧∃c,X.env.cells.lookup x=some c∧s'.heap.IsCell c (some u)) E s:=by
 obtain⟨c,hc⟩:=I.ok.has x (.inl hk)
 obtain⟨w',z⟩:=I.cell x c hc
 have st:Strt (storeName X.env x u):=by
  unfold storeName
  have e1:X.env.kindOf x=some .cell:=hk
  have e2:X.env.scope.kind=.function:=I.ok.kind
  rw[e1,e2]
  simp only[show((some NameKind.cell == some NameKind.globalImplicit)&&X.env.blockKind != ScopeKind.function)=false from rfl,show((ScopeKind.function == ScopeKind.class)&&(some NameKind.cell == some NameKind.cell))=false from rfl,ca]
  unfold cellOf
  rw[hc]
  intro o
  show Strt (match o.data with |.cell _=>_ |_=>_)
  split <;> exact trivial
 have a:=iE (M:=M) (A:=A) (E:=E) (Q:=fun _ s'=>Inv X pins (σ.set i (some v)) H s') I hN hi (.inr hk) r (fun s' I'=>I') (.inl hf)
 have b:=wpAny_storeName_cell (M:=M) (A:=A) (E:=E) (v:=u) (Q:=fun _ s'=>s'.toks=s.toks∧∃c,X.env.cells.lookup x=some c∧s'.heap.IsCell c (some u)) I.ok.kind hk hc z (fun h' hc' _=>⟨rfl,c,hc,hc'⟩)
 exact wpAny_mono (kT st a b) (fun _ _ z=>⟨z.1,z.2.1,z.2.2⟩) fun _ _ z=>z.1
theorem vK {tg:Expr} {iy:Nat} {y:Str} {py:Pos} {R:It→Hp→Prop} (ny:X.N[iy]? =some y) (vy:wu X.env.scope y) (dy:(y == ("__debug__":Str))=false) (ky:(y == ("__classdict__":Str))=false) (hP:gZ n X nm s) (I:Inv X pins σ H s) (h:ki X.K (og iy) σ H R):
  wpAny (model X.prog X.w) X.A (eval (.Name y py) X.env) (fun v s1=>wpAny (model X.prog X.w) X.A (pyIter v) (fun itv s2=>B_ X pins σ tg R itv s2∧gZ n X nm s2) X.xe s1) X.xe s:=by
 obtain⟨v0,ey,a0,e0,⟨xs0,hq0⟩,q⟩:=h
 subst e0
 refine cr (rS I ey ny vy dy ky) fun v s1 w=>?_
 obtain⟨rfl,r1,_⟩:=w
 cases r1
 obtain⟨its,rv,p,hz⟩:=I.list hq0
 refine wpAny_pyIter_list p.isList ⟨?_,?_⟩
 ·refine⟨s1.heap.objs.size,[s1.heap.objs.size],_,_,H,rfl,I.kept (t':=s1.toks) fun b o e=>dI _ e,lV a0 _,⟨_,gE _ rfl,rfl,rfl⟩,fun b hb=>?_,q⟩
  have e:b=s1.heap.objs.size:=by simpa using hb
  subst e
  exact I.fpOk (dw _) (I.hok.fresh (dw _))
 ·obtain⟨c,yv,t,hc,⟨o,ho,hd⟩,t1,t2⟩:=hP
  exact⟨c,yv,t,hc,⟨o,dI _ ho,hd⟩,t1,t2⟩
end
section
variable {X:Cx} {elt target:Expr} {ifs:List Expr} {scope sc:Scope} {cl:List (Str×Addr)} {N:List Str} {pos:Pos} {g:TG} {tt:TT} {te:TE} {js:List (Option Nat)}
theorem vL {use:Option (Value→Sem Unit)} {Qv:Value→Shared→Prop} (K:CompOk X scope sc cl N js) (hc:X.calm=true) {n iy:Nat} {y nm:Str} {py:Pos} (ny:X.N[iy]? =some y) (vy:wu X.env.scope y) (dy:(y == ("__debug__":Str))=false) (ky:(y == ("__classdict__":Str))=false) (hfn:X.fn nm=true) (hlk:sc.names.lookup nm=some .cell∨sc.names.lookup nm=some .free)
  (hgg:∀C s₀ H₀ fp,PG (X.comp sc cl N C s₀ H₀ fp) target g) (htt:∀C s₀ H₀ fp,AF (X.comp sc cl N C s₀ H₀ fp) ifs tt) (hee:∀C s₀ H₀ fp,Ac (X.comp sc cl N C s₀ H₀ fp) (gZ n (X.comp sc cl N C s₀ H₀ fp) nm) elt te)
  (hs:∀x,foldedSetIterable (.Name y py) X.env x=pure x) (pins:List (Addr×Obj)) (s:Shared) (σ:St) (H:Hp) (Q:VK) (hP:gZ n X nm s) (I:Inv X pins σ H s) (h:jH js (ki X.K (og iy)) g tt te σ H Q)
  (hend:∀(D C:Addr) (H4:Hp) (s5:Shared) (m:Str→Option Value),Inv X pins σ H4 s5→s5.heap.Ns C m→H4 C=none→C≠X.env.locals→C∉X.fs→X.s₀.heap.objs.size≤C→(∀x c,X.env.cells.lookup x=some c→c≠C)→(∀p∈X.pn++pins,p.1≠C)→Q (.ref D) H4→
   compPost (model X.prog X.w) X.A X.xe use Qv (.ref D) C (.ok .next) s5):
  wpAny (model X.prog X.w) X.A (comprehension (.ListComp elt [⟨target,.Name y py,ifs,0⟩] scope pos) scope X.env (firstIterPos [⟨target,.Name y py,ifs,0⟩] pos) (newList []) false (firstIter [⟨target,.Name y py,ifs,0⟩] X.env) use) Qv X.xe s:=by
 refine wpAny_comprehension_free (use:=use) rfl hs K.clos K.kind K.names (cr (vK (tg:=target) ny vy dy ky hP I h) fun v s1 h1=>cr h1 fun itv s2 h2=>?_)
 obtain⟨⟨it,fp,tn,J,H2,e,I2,T,st2,f2,R⟩,ce,yc,tc,hce,⟨oc,hoc,hdc⟩,t1,t2⟩:=h2
 subst e
 refine wpAny_newObj_type (wpAny_newFunctionEnv K.nocell (by intro y hy;simp at hy) (fun h₁ hns₁ hsb₁=>?_) K.kind)
 dsimp only at hns₁ hsb₁ ⊢
 have I3:Inv X pins σ (upd H2 s2.heap.objs.size (.lst [])) {s2 with heap:=s2.heap.push {cls:=.type "list",dict:=none,data:=.seq ([]:List Value).toArray}}:=
  I2.lnew (t':=s2.toks) (its:=[]) .nil (Nat.zero_le _)
 obtain⟨W,⟨m0,w0⟩,turn⟩:=R s2.heap.objs.size (I2.hok.fresh (dw _))
 generalize hP:s2.heap.push {cls:=.type "list",dict:=none,data:=.seq ([]:List Value).toArray}=h3 at hns₁ hsb₁ I3 ⊢
 generalize hD:s2.heap.objs.size=D at w0 turn I3 ⊢
 have hsz3:h3.objs.size=D+1:=by rw[←hP,Heap.size_push,hD]
 have old3:∀b o,s2.heap.get? b=some o→h3.get? b=some o:=fun b o e=>by rw[←hP];exact dI _ e
 have old:∀b o,h3.get? b=some o→h₁.get? b=some o:=fun b o e=>hsb₁.extBut b o (eT (eB e)) (dI _ e)
 have fpD:∀b∈fp,b < D:=fun b hb=>by
  obtain⟨o,e,_⟩:=T.obj _ _ st2 b hb
  rw[←hD];exact eB e
 have frD:∀b∈fp,(upd H2 D (.lst [])) b=none:=fun b hb=>by rw[aD (eT (fpD b hb))];exact(f2 b hb).1
 have f3:∀b∈fp,g8 X pins (upd H2 D (.lst [])) b:=fun b hb=>⟨frD b hb,(f2 b hb).2⟩
 have Hfresh:∀a,h3.objs.size≤a→(upd H2 D (.lst [])) a=none:=fun a ha=>I3.hok.fresh ha
 have cellC:∀x c,X.env.cells.lookup x=some c→c < h3.objs.size:=fun x c e=>by
  obtain⟨v,q⟩:=I3.cell x c e
  exact q.lt
 have YOk:(X.comp sc cl N h3.objs.size {s2 with heap:=h3} (upd H2 D (.lst [])) fp).Ok:=by
  refine⟨I3.ok.mod,?_,I3.ok.glob,I3.ok.blt,dw _,fun x y c e1 e2=>I3.ok.inj x y c (K.same x c e1) (K.same y c e2),fun x hx=>K.has x hx,fun x c hf _=>absurd hf (by intro z;cases z),I3.ok.hd,I3.ok.frames,.inl rfl,fun b hb=>⟨?_,fun x c e=>(f2 b hb).2.2.2.2.1 x c (K.same x c e)⟩,
   I3.bs,gG I3.ok.bsz I3.sz,fun b o e hb=>?_,fun b hb hm=>?_,I3.stack,I3.stkFree,I3.tab⟩
  ·rw[←K.rel];exact K.kind
  ·exact eT (by rw[hsz3];exact n_ (fpD b hb))
  ·rcases(f2 b hb).2.2.2.1 with z |z
   ·exact I3.ok.noex b o e z
   ·exact absurd (i7 (eB (I3.ok.bs b o e).1) z) (Nat.lt_irrefl _)
  ·rcases Zap.mp (I3.stkSub b hm)with z |z
   ·exact(f2 b hb).2.1 z
   ·exact(f2 b hb).2.2.1 z
 have IY:Inv (X.comp sc cl N h3.objs.size {s2 with heap:=h3} (upd H2 D (.lst [])) fp) [] (slots js σ) (upd H2 D (.lst [])) {s2 with heap:=h₁,toks:=s2.toks+([]:List (Str×Value)).length}:=by
  refine⟨YOk,rfl,I3.bare,Un.kept old,⟨_,hns₁,fun i x v e1 e2 e3=>?_⟩,fun x c e=>?_,Hfresh _ (dw _),fun x c e=>I3.freeC x c (K.same x c e),fun p hp=>absurd (show p∈([]:List (Addr×Obj))from hp) (by simp),I3.hok.kept old,?_⟩
  ·unfold slots at e2
   rw[qT]at e2
   cases ej:js[i]? with
   |none=>rw[ej]at e2;cases e2
   |some jo=>
    rw[ej]at e2
    cases jo with
    |none=>cases e2
    |some j=>
     obtain⟨y,n1,n2,k1,k2⟩:=K.from_ i j ej
     have exy:y=x:=Option.some.inj (n1.symm.trans e1)
     subst exy
     have e2':(σ[j]?).join=some v:=Option.some.inj e2
     have e4:σ[j]? =some (some v):=by
      cases es:σ[j]? with
      |none=>rw[es]at e2';cases e2'
      |some w=>rw[es]at e2';exact congrArg some e2'
     obtain⟨m,_,hl⟩:=I3.loc
     obtain⟨u,ru,lk⟩:=hl j y v n2 e4 (by
      rcases k2 with z |z
      ·exact .inr (.inl z)
      ·exact .inr (.inr z))
     refine⟨u,ru,.inr ⟨k1,?_⟩⟩
     obtain⟨c,hcl⟩:=K.has y k1
     refine⟨c,hcl,?_⟩
     rcases lk with⟨z,_⟩ |⟨_,c',e5,ic⟩
     ·rcases k2 with q |q
      ·rw[q]at z;cases z
      ·rw[q]at z;cases z
     ·have:c'=c:=Option.some.inj (e5.symm.trans (K.same y c hcl))
      subst this
      obtain⟨o,ho,hd⟩:=ic
      exact⟨o,old _ _ ho,hd⟩
  ·obtain⟨v,o,ho,hd⟩:=I3.cell x c (K.same x c e)
   exact⟨v,o,old _ _ ho,hd⟩
  ·unfold slots;rw[dv];exact K.len
 have cfs:ce∉sr X.stack:=fun hb=>by
  rcases Zap.mp (I3.stkSub ce hb)with z |z
  ·exact I3.cne nm ce hce z
  ·obtain⟨_,o,ho,_⟩:=I3.ok.funs.mem z
   exact absurd (i7 (eB ho) (I3.ok.cab nm ce hfn hce)) (Nat.lt_irrefl _)
 have cfp:ce∉fp:=fun hb=>(f2 ce hb).2.2.2.2.1 nm ce hce rfl
 obtain⟨ce',hce'⟩:=K.has nm hlk
 have ecc:ce'=ce:=Option.some.inj ((K.same nm ce' hce').symm.trans hce)
 subst ecc
 have held:∀{pp:List (Addr×Obj)} {σ':St} {H':Hp} {s':Shared},Inv (X.comp sc cl N h3.objs.size {s2 with heap:=h3} (upd H2 D (.lst [])) fp) pp σ' H' s'→tc+1≤s'.toks→gZ n (X.comp sc cl N h3.objs.size {s2 with heap:=h3} (upd H2 D (.lst [])) fp) nm s':=fun I' k'=>
  ⟨ce',yc,tc,hce',⟨oc,I'.base.keep ce' oc (old3 ce' oc hoc) (I3.freeC nm ce' hce) cfs cfp,hdc⟩,t1,k'⟩
 have mR:∀s₃:Shared,s₃={s2 with heap:=h₁,toks:=s2.toks+([]:List (Str×Value)).length}→
   codeAny (model X.prog X.w) X.A (.compLoop (.ListComp elt [⟨target,.Name y py,ifs,0⟩] scope pos) 0 (.ref it) (.ref D) (X.comp sc cl N h3.objs.size {s2 with heap:=h3} (upd H2 D (.lst [])) fp).env)
    (compPost (model X.prog X.w) X.A X.xe use Qv (.ref D) h3.objs.size) s₃:=by
  rintro s₃ rfl
  refine iH (fun k s'=>tc+1≤s'.toks∧∃i σ' H',Inv (X.comp sc cl N h3.objs.size {s2 with heap:=h3} (upd H2 D (.lst [])) fp) [] σ' H' s'∧tn i s'.heap∧(∀b∈fp,H' b=none)∧W i k σ' H') ?_ m0
   ⟨t2,0,_,_,IY,T.keep _ _ _ st2 (fun b hb o e=>old b o (old3 b o e)),frD,w0⟩
  rintro k s4 ⟨n4,i,σ4,H4,I4,st4,fr4,w4⟩
  have ff:∀{H':Hp},(∀b∈fp,H' b=none)→∀b∈fp,g8 (X.comp sc cl N h3.objs.size {s2 with heap:=h3} (upd H2 D (.lst [])) fp) [] H' b:=fun hn b hb=>
   ⟨hn b hb,(YOk.exf b hb).1,YOk.exfs b hb,.inl hb,(YOk.exf b hb).2,fun p hp=>absurd (show p∈([]:List (Addr×Obj))from hp) (by simp)⟩
  have hg:=hgg h3.objs.size {s2 with heap:=h3} (upd H2 D (.lst [])) fp
  have ht:=htt h3.objs.size {s2 with heap:=h3} (upd H2 D (.lst [])) fp
  have he:=hee h3.objs.size {s2 with heap:=h3} (upd H2 D (.lst [])) fp
  rcases turn i k σ4 H4 w4 with⟨stop,qn⟩ |⟨go,Nx,hN,step⟩
  ·refine cr (T.done (X.comp sc cl N h3.objs.size {s2 with heap:=h3} (upd H2 D (.lst [])) fp) rfl rfl rfl hc i [] s4 σ4 H4 _ I4 (ff fr4) st4 stop) fun r s5 ⟨hr,I5⟩=>?_
   subst hr
   obtain⟨m,hn,_⟩:=I5.loc
   have IX:Inv X pins σ H4 s5:=I3.call' (ch:=fp) I5.os I5.base I5.hok I5.bare fun b hb=>⟨(f3 b hb).2.2.2.1,(f3 b hb).2.1,(f3 b hb).2.2.2.2.1,(f3 b hb).2.2.2.2.2⟩
   exact hend D h3.objs.size H4 s5 m IX hn I5.free (Ne.symm (eT I3.lt)) (I3.nofs (dw _)) I3.sz (fun x c e=>eT (cellC x c e)) (fun p hp=>eT (eB (I3.pin p hp).1)) qn
  ·refine eP n4 (T.item (X.comp sc cl N h3.objs.size {s2 with heap:=h3} (upd H2 D (.lst [])) fp) rfl rfl rfl hc i [] s4 σ4 H4 _ I4 (ff fr4) st4 go) fun r s5 n5 z5=>?_
   obtain⟨u,hr,h5⟩:=z5
   subst hr
   refine eP n5 h5 fun _ s6 n6 z6=>?_
   obtain⟨x,H6,I6,r6,y6,st6,fr6⟩:=z6
   have I6':=I6.pinned (ff fr6) (T.obj _ _ st6)
   have back:∀{σ7:St} {H7:Hp} {s7:Shared},Inv (X.comp sc cl N h3.objs.size {s2 with heap:=h3} (upd H2 D (.lst [])) fp) ([]++gj fp s6.heap) σ7 H7 s7→
     Inv (X.comp sc cl N h3.objs.size {s2 with heap:=h3} (upd H2 D (.lst [])) fp) [] σ7 H7 s7∧tn (i+1) s7.heap∧∀b∈fp,H7 b=none:=fun {σ7 H7 s7} I7=>
    ⟨I7.unpinned,T.keep _ _ _ st6 fun b hb o e=>(I7.pin (b,o) (iD _ (iD _ (cG hb e)))).1,fun b hb=>by
     obtain⟨o,e,d⟩:=T.obj _ _ st6 b hb
     exact(I7.pin (b,o) (iD _ (iD _ (cG hb e)))).2.1⟩
   refine eP n6 (hg _ s6 σ4 H6 x u _ I6' r6 (step x H6 y6)) fun _ s7 n7 z7=>?_
   obtain⟨σ7,H7,I7,q7⟩:=z7
   refine eP n7 (ht _ s7 σ7 H7 _ I7 q7) fun b s8 n8 z8=>?_
   obtain⟨H8,I8,q8⟩:=z8
   cases b with
   |false=>
    obtain⟨m',hm,w8⟩:=hN σ7 H8 q8
    obtain⟨J1,J2,J3⟩:=back I8
    exact⟨m',hm,n8,i+1,σ7,H8,J1,J2,J3,w8⟩
   |true=>
    refine eP n8 (he _ s8 σ7 H8 _ (held I8 n8) I8 q8) fun yv s9 n9' z9=>?_
    obtain⟨y,H9,I9,r9,ys,hl,hz,n9⟩:=z9
    obtain⟨m',hm,w9⟩:=hN _ _ n9
    refine eP n9' (ja _ s9 σ7 H9 (.ref D) [y] (.ref D) [yv] (fun v H'=>v=.non∧H'=upd H9 D (.lst (ys++[y]))) I9 rfl (.cons r9 .nil) ⟨D,ys,y,rfl,rfl,hl,hz,rfl,rfl⟩) fun _ sA nA zA=>?_
    obtain⟨_,HA,IA,_,_,eA⟩:=zA
    subst eA
    obtain⟨J1,J2,J3⟩:=back IA
    exact⟨m',hm,nA,i+1,σ7,_,J1,J2,J3,w9⟩
 rw[K.rel]
 exact codeAny_compStart_list (mR _ rfl) (T.self _ 0 _ _ _ (T.keep _ _ _ st2 (fun b hb o e=>old b o (old3 b o e))) (mR _ rfl))
end
end L2
namespace L2
open PySem PySem.Spec PyProof.Rows
section
variable {X:Cx} {P:Shared→Prop} {es:List Expr} {e:Expr} {t:TA} {te:TE} {n:Nat}
theorem vM(h:Ac X P e te)(hr:PA X es t)(hs:starEach (e::es) X.env=(false,eval e X.env)::starEach es X.env):CL X P (e::es) (jG te t):=by
 intro pos pins s σ H Q hP I z
 rw[hs]
 refine Calls.spliced_cons (cr (h pins s σ H _ hP I z) fun u s1 w=>?_)
 obtain⟨v,H1,I1,r,q⟩:=w
 exact cr (hr pos pins s1 σ H1 _ I1 q) fun us s2 w=>let ⟨xs,H2,I2,r2,q2⟩:=w;⟨v::xs,H2,I2,.cons r r2,q2⟩
theorem xJ {ib ic:Nat} {b c:Str} {pb pc pk apos cpos:Pos} {j:Nat} (hn:1≤n) (nb:X.N[ib]? =some b) (nc:X.N[ic]? =some c) (vb:wu X.env.scope b) (lc:X.env.scope.names.lookup c=some .cell∨X.env.scope.names.lookup c=some .free) (db:(b == ("__debug__":Str))=false) (dc:(c == ("__debug__":Str))=false) (kb:(b == ("__classdict__":Str))=false) (kc:(c == ("__classdict__":Str))=false)
  (hbase:attributeBase (.Name b pb) "replace" X.env (eval (.Name b pb) X.env)=eval (.Name b pb) X.env)
  (hfew:((backTo cpos (starEach [.Name c pc,.Constant (.str "") j pk] X.env)).all (fun x=> !x.1)&&(backToKw cpos (keywordEach [] X.env)).all (fun x=>x.1.isSome)
   &&decide (([.Name c pc,.Constant (.str "") j pk]:List Expr).length+([]:List Keyword).length+(if ([]:List Keyword).isEmpty then 0 else 1) < 30))=true) (hline:(apos.endLine == cpos.line)=true)
  (hs:starEach [.Name c pc,.Constant (.str "") j pk] X.env=[(false,eval (.Name c pc) X.env),(false,eval (.Constant (.str "") j pk) X.env)]):
  Ac X (gZ n X c) (.Call (.Attribute (.Name b pb) "replace" apos) [.Name c pc,.Constant (.str "") j pk] [] cpos) (xF ib ic):=by
 intro pins s σ H Q hP I z
 obtain⟨x,y,eb,ec,hy,hx,q⟩:=z
 obtain⟨cc,y',tc,hcc,hcell,t1,t2⟩:=hP
 have ey:y'=y:=by
  obtain⟨m,hn,hl⟩:=I.loc
  obtain⟨u,⟨tu,rfl⟩,lk⟩:=hl ic c (.str y) nc ec (.inr lc)
  rcases lk with⟨z,_⟩ |⟨_,c',hc',o',ho',hd'⟩
  ·have z':X.env.scope.names.lookup c=some .local:=z
   rcases lc with q |q <;> rw[q]at z' <;> cases z'
  ·obtain⟨o,ho,hd⟩:=id hcell
   have e1:c'=cc:=Option.some.inj (hc'.symm.trans hcc)
   subst e1
   have e2:o'=o:=Option.some.inj (ho'.symm.trans ho)
   subst e2
   rw[hd']at hd
   cases hd
   rfl
 subst ey
 refine wpAny_Call_method_late hbase hfew hline rfl (cr (rS I eb nb vb db kb) fun v s1 w=>?_)
 obtain⟨rfl,⟨tb,rfl⟩,_⟩:=w
 refine⟨"str","str.replace",PySem.F.plainAttrs_str,PySem.F.slot_str_replace,PySem.F.type_str_replace,typeIs_str _ _ _,fun _ e=>(nomatch e),?_⟩
 rw[hs]
 refine Calls.callWith_builtin rfl (Calls.evalArgs_plain ?_)
 have ld:∀{Qv:Value→Shared→Prop},Qv (.str y' tc) s1→wpAny (model X.prog X.w) X.A (eval (.Name c pc) X.env) Qv X.xe s1:=fun q=>by
  rcases lc with l |l
  ·exact wpAny_Name (wpAny_loadName_cell I.ok.kind l hcc hcell q) dc
  ·exact wpAny_Name (wpAny_loadName_free I.ok.kind l hcc hcell q kc) dc
 refine Calls.spliced_cons (ld ?_)
 refine Calls.spliced_cons (Calls.Constant_str (k:=j) (pos:=pk) (Calls.spliced_nil ?_))
 refine SC.replace (Nat.ne_of_gt (i7 hn t1)) (Nat.ne_of_gt (sm (Nat.zero_le tc) t2)) (eT t2) hy ?_ fun t' k=>?_
 ·show x.length+(x.length+1)*0≤_
  omega
 ·exact⟨.str (Txt.replace x y' ""),H,I.tok _,⟨_,rfl⟩,q⟩
def Cy(X:Cx)(P:Shared→Prop)(e:Expr)(t:TT):Prop:=∀(pins:List (Addr×Obj)) (s:Shared) (σ:St) (H:Hp) (Q:Bool→Hp→Prop),P s→Inv X pins σ H s→t σ H Q→wpAny (model X.prog X.w) X.A (isTrue e X.env (eval e X.env)) (TP X pins σ Q) X.xe s
def xK(X:Cx)(P:Shared→Prop)(st:List Stmt)(t:TS):Prop:=∀(pins:List (Addr×Obj)) (s:Shared) (σ:St) (H:Hp) (D:Ends),P s→Inv X pins σ H s→t D σ H→wpAny (model X.prog X.w) X.A (execs st X.env) (SP X pins D) X.xe s
theorem Ah{c:Expr}{a b:List Stmt}{tc:TT}{t u:TS}{pos:Pos}(hc:Cy X P c tc)(ha:PSs X a t)(hb:PSs X b u):xK X P [.If c a b pos] (wA tc t u):=by
 intro pins s σ H D hn I h
 have one:wpAny (model X.prog X.w) X.A (exec (.If c a b pos) X.env) (SP X pins D) X.xe s:=by
  refine wpAny_If (cr (hc pins s σ H _ hn I h) fun d s1 q=>?_)
  obtain⟨H1,I1,q1⟩:=q
  cases d with
  |true=>exact ha pins s1 σ H1 D I1 q1
  |false=>exact hb pins s1 σ H1 D I1 q1
 refine wpAny_execs_cons (cr one fun f s1 q=>?_)
 cases f with
 |next=>exact wpAny_execs_nil q
 |ret v=>exact q
 |brk=>exact q
 |cont=>exact q
theorem vN{nm:Str}{pn:Pos}{iter:Expr}{body:List Stmt}{tl:TE}{tb:TS}{pos:Pos}{i:Nat}(hp:PassesOwn (model X.prog X.w) X.A X.env X.xe)(calm:X.calm=true)(hl:PE X iter tl)(hN:X.N.Nodup)(hi:X.N[i]? =some nm)(hk:X.env.scope.names.lookup nm=some .cell)(hf:X.fn nm=true)(turns:xK X (gZ n X nm) body tb)
  (hs:∀x,foldedSetIterable iter X.env x=pure x:=by intro _;rfl):xD X n (.For (.Name nm pn) iter body [] pos) (sy (ql tl) (jF i) tb):=by
 intro pins s σ H D hn I h
 refine wpAny_For (eP hn (Ad hl pins s σ H _ hn I h) fun _ _ b1 h1=>eP b1 h1 fun _ s2 b2 h2=>?_) hs
 obtain⟨it,x,tk,T0,H2,e,n2,I2,hT,st2,fit,W,⟨m0,w0⟩,plan⟩:=h2
 subst e
 have T:Turn X.prog X.w X.K (.Name nm pn) (AH x) [it] it (fun i h=>h.IsStrIter it T0 x tk i):=oK (t:=tk) hT
 have f2:∀b∈[it],g8 X pins H2 b:=fun b hb=>by rw[Zaf.mp hb];exact fit
 obtain⟨fp,hfp⟩:∃fp,fp=[it]:=⟨_,rfl⟩
 have hit:it∈fp:=by rw[hfp];simp
 rw[←hfp]at T f2
 have fp_ok:∀H',(∀b∈fp,H' b=none)→∀b∈fp,g8 X pins H' b:=fun _ none b hb=>⟨none b hb,(f2 b hb).2⟩
 have dg:AtTurn X n pins fp (fun i h=>h.IsStrIter it T0 x tk i) W m0 s2:=⟨b2,I2,st2,fun b hb=>(f2 b hb).1,w0⟩
 refine codeAny_forLoop_any (AtTurn X n pins fp (fun i h=>h.IsStrIter it T0 x tk i) W) (fun left s3 here=>?_) m0 dg
 rcases here with @⟨i3,σ3,H3,b3,I3,st3,fr3,w3⟩
 have fp3:=fp_ok H3 fr3
 cases plan i3 left σ3 H3 w3 with
 |inl over=>
  have last:=T.done X rfl rfl rfl calm i3 pins s3 σ3 H3 X.xe I3 fp3 st3 over.1
  refine wpAny_passesOwn hp (cr last fun r s4 told=>?_)
  cases told.1
  exact wpAny_execs_nil ⟨σ3,H3,told.2,over.2⟩
 |inr next=>
  obtain⟨go,N,fewer,step⟩:=next
  have hlt:i3 < x.cps.toList.length:=go
  refine wpAny_passesOwn hp (eP b3 (vI (tg:= .Name nm pn) hT I3 (fp3 it hit) st3 hlt) fun r s4 b4 got=>?_)
  obtain⟨hr,h5⟩:=got
  subst hr
  refine wpAny_passesOwn hp (eP b4 h5 fun _ s5 b5 kept=>?_)
  obtain⟨t5,I5,st5⟩:=kept
  have objs:=T.obj _ _ st5
  have q6:=step (.str ⟨#[x.cps.toList[i3]]⟩) H3 ⟨rfl,_,pS hlt,rfl⟩
  refine wpAny_passesOwn hp (eP b5 (wpAny_assign_Name (nQ (v:=.str ⟨#[x.cps.toList[i3]]⟩) (I5.pinned (fp_ok H3 fr3) objs) hN hi hk hf ⟨_,rfl⟩)) fun _ s6 b6 named=>?_)
  obtain⟨I6,t6,c6,hc6,cell6⟩:=named
  have back:∀s7,n≤s7.toks→∀σ7 H7,Inv X (pins++gj fp s5.heap) σ7 H7 s7→N σ7 H7→∃m,m < left∧AtTurn X n pins fp (fun i h=>h.IsStrIter it T0 x tk i) W m s7:=fun s7 b7 σ7 H7 I7 k7=>by
   obtain⟨m,lt,w7⟩:=fewer σ7 H7 k7
   have pinned:∀b∈fp,∀o,s5.heap.get? b=some o→s7.heap.get? b=some o∧H7 b=none:=fun b hb o e=>
    let z:=I7.pin (b,o) (iD _ (iD _ (cG hb e)))
    ⟨z.1,z.2.1⟩
   refine⟨m,lt,b7,I7.unpinned,T.keep _ _ _ st5 fun b hb o e=>(pinned b hb o e).1,fun b hb=>?_,w7⟩
   obtain⟨o,e,_⟩:=objs b hb
   exact(pinned b hb o e).2
  refine wpAny_passesOwn hp (eP b6 (turns _ s6 _ H3 _ ⟨c6,_,s3.toks,hc6,cell6,b3,Nat.lt_of_lt_of_eq (Nat.lt_succ_self _) (t6.trans t5).symm⟩ I6 q6) fun f s7 b7 told=>?_)
  cases f with
  |next=>
   obtain⟨σ7,H7,I7,k7⟩:=told
   exact back s7 b7 σ7 H7 I7 k7
  |cont=>
   obtain⟨σ7,H7,I7,k7⟩:=told
   exact back s7 b7 σ7 H7 I7 k7
  |brk=>
   obtain⟨σ7,H7,I7,k7⟩:=told
   exact⟨σ7,H7,I7.unpinned,k7⟩
  |ret v=>
   obtain⟨y,σ7,H7,I7,ry,k7⟩:=told
   exact⟨y,σ7,H7,I7.unpinned,ry,k7⟩
end
end L2
namespace L2
open PySem PySem.Spec PyProof.Rows
structure FnOkT (n:Nat) (P:Program) (w:World) (K:Frag) (mg:Str→Option Value) (base:Heap) (CX:qZ) (k:Nat) (f:Addr) (fd:FuncData) (ps:List Str) (sp:Sp):Prop where
 len:∀vs H Q E,sp vs H Q E→vs.length=ps.length
 run:∀(A:Around) (outer:List Env) (s:Shared) (H:Hp) (args:Args) (us:List Value) (vs:List V) (Q:VK) (E:XK),n≤s.toks→Room k A→Env0 P w K mg base A outer s H→BindsTo s fd args (ps.zip us)→Vals vs us→sp vs H Q E→
  codeAny (model P w) A (.call (.ref f) args) (CR CX outer P w H s Q E) s
theorem Ai{nt:Nat}{CX:qZ}{P:Program}{w:World}{K:Frag}{mg:Str→Option Value}{base:Heap}{k:Nat}{f:Addr}{name qual:Str}{params:Arguments}{body:List Stmt}{scope:Scope}{dV kV doc pm cdv ct oc:Value}{an od:Option Addr}
  {osl:Array (Option Value)} {N ps:List Str} {sp:Sp} (lk:K.lookup f=some ⟨oc,od,.func (fnOf name qual params body scope dV kV doc pm an cdv ct),osl⟩) (hcd:codeIn K cdv qual=true) (S:FnScope N ps scope)
  (len:∀vs H Q E,sp vs H Q E→vs.length=ps.length)
  (hbody:∀(A:Around) (outer:List Env) (s:Shared) (H:Hp) (vs:List V) (Q:VK) (E:XK),Room k (A.deeper (envOfC qual scope s.heap.objs.size f cdv))→sp vs H Q E→
   ∃t,jY (g9 CX P w K mg base N qual scope f cdv A outer s H E) nt body t∧t {nx:=fun _ H'=>Q .non H',rt:=Q} (dg N vs) H):
  FnOkT nt P w K mg base CX (k+1) f (fnOf name qual params body scope dV kV doc pm an cdv ct) ps sp:=by
 refine⟨len,fun A outer s H args us vs Q E hnt hr e0 hb r hsp=>?_⟩
 have hl:=len _ _ _ _ hsp
 have KX:K.In s.heap:=e0.mod.kin.keeps fun b o e=>(e0.bs b o e).1
 have lim:s.heap.NoLimit:=e0.mod.nolimit.keeps fun b o e=>(e0.bs b o e).1
 have hkind:∀y∈ps.zip us,scope.names.lookup y.1=some .local∨(scope.names.lookup y.1=some .cell∧((cellsFrom (s.heap.objs.size+1) scope.names []).lookup y.1).isSome=true):=fun⟨n,v⟩ hy=>by
  rcases S.par n (List.of_mem_zip hy).1 with q |q
  ·exact .inl q
  ·exact .inr ⟨q,cellsFrom_some _ _ _ (.inl q)⟩
 refine codeAny_call_function hr.depth (KX _ _ lk) rfl S.co S.gen rfl (PySem.W.codeRec_of KX hcd) (hb _ _ _ _ ?_)
 refine eP hnt (wpAny_newFunctionEnv_cells (Q:=fun env s1=>env=newEnv (fnOf name qual params body scope dV kV doc pm an cdv ct).scope s.heap.objs.size (fnOf name qual params body scope dV kV doc pm an cdv ct).globals (cellsFrom (s.heap.objs.size+1) (fnOf name qual params body scope dV kV doc pm an cdv ct).scope.names []) ((fnOf name qual params body scope dV kV doc pm an cdv ct).qualname++Str.ofString ".<locals>.") (some f) (fnOf name qual params body scope dV kV doc pm an cdv ct).code none (fnOf name qual params body scope dV kV doc pm an cdv ct).builtins∧InCallC s env.locals (bindL env.kindOf (ps.zip us) fun _=>none) env.cells (bindC env.kindOf (ps.zip us) fun _=>none) s1) S.kind hkind fun env he s1 x=>⟨he,x⟩) fun env s1 n1 hex=>?_
 obtain⟨he,x⟩:=hex
 subst he
 refine⟨lim.keeps x.toInCall.keep,codeAny_func ?_⟩
 obtain⟨t,ht,hq⟩:=hbody A outer s H vs Q E (hr.deeper _) hsp
 have I:Inv (g9 CX P w K mg base N qual scope f cdv A outer s H E) [] (dg N vs) H s1:=l6 S hr.hd e0 hl r x
 refine wpAny_mono (ht [] s1 (dg N vs) H _ n1 I hq) (fun fl s' hs=>?_) fun e s' hs=>hs
 have fin:∀{σ':St} {H':Hp} {v:V} {u:Value},Inv (g9 CX P w K mg base N qual scope f cdv A outer s H E) [] σ' H' s'→RelV v u→Q v H'→CE outer P w H s Q u s':=
  fun {σ' H' v u} J rv q=>⟨v,H',J.os,J.bare,J.base,J.hok,rv,q⟩
 cases fl with
 |ret u=>
  obtain⟨v,σ',H',J,rv,q⟩:=hs
  exact fin J rv q
 |next=>
  obtain⟨σ',H',J,q⟩:=hs
  exact fin (v:=V.non) (u:=Value.none) J rfl q
 |brk=>
  obtain⟨_,_,_,q⟩:=hs
  exact False.elim q
 |cont=>
  obtain⟨_,_,_,q⟩:=hs
  exact False.elim q
structure OwnT (n:Nat) (P:Program) (w:World) (K:Frag) (mg:Str→Option Value) (base:Heap) (k:Nat) (x:Str) (ps:List Str) (sp:Sp):Prop where
 ex:∃(f:Addr) (fd:FuncData),FnOkT n P w K mg base pU k f fd ps sp∧Binds K fd ps []∧mg x=some (.ref f)∧keepIn K (.ref f)=true
theorem Def.ownT{nt:Nat}{P:Program}{w:World}{K:Frag}{mg:Str→Option Value}{base:Heap}{x:Str}{st:Stmt}{N ps:List Str}{k:Nat}{sp:Sp}(D:Def K mg x st ps)(S:FnScope N ps (ag st))
  (len:∀vs H Q E,sp vs H Q E→vs.length=ps.length)
  (hbody:∀(f:Addr) (cdv:Value) (A:Around) (outer:List Env) (s:Shared) (H:Hp) (vs:List V) (Q:VK) (E:XK),Room k (A.deeper (envOfC x (ag st) s.heap.objs.size f cdv))→sp vs H Q E→
   ∃t,jY (g9 pU P w K mg base N x (ag st) f cdv A outer s H E).nox nt (bh st) t∧t {nx:=fun _ H'=>Q .non H',rt:=Q} (dg N vs) H):OwnT nt P w K mg base (k+1) x ps sp:=by
 obtain⟨f,fd,F,m,b⟩:=D.ex
 obtain⟨oc,od,kV,doc,pm,an,cdv,ct,osl,rfl,lk,hcd⟩:=F.ex
 refine⟨f,_,Ai lk hcd S len fun A outer s H vs Q E hr hsp=>?_,b,m,F.kp⟩
 obtain⟨t,h,q⟩:=hbody f cdv A outer s H vs Q E hr hsp
 exact⟨t,fun pins s σ H D hn I hw=>wpAny_mono (h pins s σ H D hn (I.wish _) hw) (fun _ _ q=>q.unwish) fun _ _ z=>False.elim z,q⟩
theorem xL{X:Cx}{n k:Nat}{x:Str}{ps:List Str}{sp:Sp}{p pos:Pos}{e:Expr}{es:List Expr}{t:TA}(D:OwnT n X.prog X.w X.K X.mg X.base k x ps sp)(hr:Room k X.A)(hg:Gl X x)(ha:PA X (e::es) t)
  (hdb:(x == ("__debug__":Str))=false:=by decide) (he:starEach (e::es) X.env=(false,eval e X.env)::starEach es X.env:=by rfl) (hpl:(backTo pos (starEach es X.env)).any (·.1)=false:=by rfl):
  AJ X n (.Call (.Name x p) (e::es) [] pos) (kl sp [] E0 t):=by
 obtain⟨f,fd,F,hb,m,kp⟩:=D.ex
 intro pins s σ H Q hn I h
 refine wpAny_Call_Name_kw (j5 I hg m ?_ hdb)
 refine callWith_K (h₀:=X.base) I.ok.mod.kin kp (eP hn (ha pos pins s σ H _ I h) fun us s1 n1 w=>?_) he hpl
 obtain⟨vs,H1,I1,r,q⟩:=w
 refine⟨I1.kIn,?_⟩
 have r2:Vals (vs++[]) (us++[]):=r.append .nil
 have hl:(us++[]).length=ps.length:=by rw[←r2.length];exact F.len _ _ _ _ q
 refine wpAny_call (codeAny_mono (F.run X.A X.stack s1 H1 ⟨us,[]⟩ (us++[]) (vs++[]) Q E0 n1 hr I1.env0 (hb s1 us I1.kIn hl) r2 q) fun r s' hq=>?_)
 cases r with
 |error e=>exact uC pins σ H1 s1 e s' I1 hq
 |ok fl=>
  cases fl with
  |ret u=>exact I1.after hq
  |next=>exact False.elim hq
  |brk=>exact False.elim hq
  |cont=>exact False.elim hq
end L2
namespace PL
open PySem PySem.Spec PyProof.Rows L2 Nh
section
variable {X:Cx} {n:Nat} {a:Expr} {m m1:Bool} {f:aO} {t:gh} {pos:Pos}
theorem rW{e:Expr}{t t':TT}(h:xC X n e t)(k:∀σ H Q,t' σ H Q→t σ H Q):xC X n e t':=fun pins s σ H Q hn I q=>h pins s σ H Q hn I (k σ H Q q)
theorem xM{e:Expr}{t t':TE}(h:AJ X n e t)(k:∀σ H Q,t' σ H Q→t σ H Q):AJ X n e t':=fun pins s σ H Q hn I q=>h pins s σ H Q hn I (k σ H Q q)
theorem xN{tA:TT}(ha:xC X n a tA):xC X n (.UnaryOp .Not a pos) (AM tA):=fun pins s σ H Q hn I h=>isTrue_not (ha pins s σ H (fun c H1=>Q (!c) H1) hn I h)
theorem tU{ta:TE}(ha:AJ X n a ta)(he:∀whole,isTrue a X.env whole=(do let v ←whole;standAt a.pos;holding [v] (truthy v))):xC X n a (fun σ H Q=>ta σ H fun x H'=>∃k,oj X.K x H' k∧Q k H'):=by
 intro pins s σ H Q hn I h
 exact isTrue_plain (cr (ha pins s σ H _ hn I h) fun v s1 ⟨x,H1,I1,r1,q1⟩=>p9 pins s1 σ H1 x v Q I1 r1 q1) (he _)
theorem xO(ha:B4 X n a m1 t):B4 X n (.UnaryOp .Not a pos) m1 (bS t):=by
 refine rW (xN ha) fun σ H Q z=>?_
 obtain⟨B,E,xs,Xs,res,E',fr,cl,e,q⟩:=z
 obtain⟨⟨b1,E1⟩,e1,e⟩:=Zab.mp e
 cases e
 exact⟨B,E,xs,Xs,b1,E1,fr,cl,e1,fun H1 fr1=>q _ fr1⟩
theorem xP(ha:CM X n a m1 f)(he:∀whole,isTrue a X.env whole=(do let v ←whole;standAt a.pos;holding [v] (truthy v)):=by exact fun _=>rfl):B4 X n a m1 (dW f):=by
 refine rW (tU ha he) fun σ H Q z=>?_
 obtain⟨B,E,xs,Xs,res,E',fr,cl,e,q⟩:=z
 obtain⟨⟨s,E1⟩,e1,e⟩:=Za.mp e
 refine⟨B,E,xs,Xs,s,E1,fr,cl,e1,fun v1 H1 ⟨F,A,fr1⟩=>?_⟩
 have key:∀d,look E1 s=some d→(gl d).map (fun b=>(b,E1))=some (res,E')→∃k,oj X.K v1 H1 k∧Q k H1:=fun d l e=>by
  obtain⟨b,e',z⟩:=Zab.mp e
  cases z
  obtain⟨A',fr2⟩:=fr1.pop
  exact⟨_,uQ (fr1.look0 l).1 e',q _ ⟨F,A',fr2⟩⟩
 have kv:(s.val.bind gl).map (fun b=>(b,E1))=some (res,E')→(∀i,s≠ .al i)→∃k,oj X.K v1 H1 k∧Q k H1:=fun e na=>by
  obtain⟨b,e',z⟩:=Zab.mp e
  obtain⟨d,e1,e2⟩:=Za.mp e'
  refine key d ?_ (by rw[e2];exact congrArg some z)
  cases s <;> first |exact e1 |exact absurd rfl (na _)
 simp only at e
 split at e
 ·rename_i i
  split at e
  ·rename_i kvs ei
   cases e
   obtain⟨v',A1,ev,rfl,w,ew,hw⟩:=fr1.ext (k:=0) rfl
   cases ev;cases ew
   obtain⟨o,A1,eo,l,us,A2,rfl,_,hl,r⟩:=fr1.var ei
   rw[hw]at eo
   cases eo
   obtain⟨A',fr2⟩:=fr1.pop
   exact⟨_,.inr (.inr ⟨_,hl,by cases us <;> cases kvs <;> first |rfl |exact False.elim r⟩),q _ ⟨F,A',fr2⟩⟩
  ·rename_i s' _ ei
   obtain⟨b,e',z⟩:=Zab.mp e
   obtain⟨d,e1,e2⟩:=Za.mp e'
   exact key d (by simp[look,ei,e1]) (by rw[e2];exact congrArg some z)
  ·cases e
 ·rename_i na
  exact kv e na
end
theorem xQ{X:Cx}{n k:Nat}{x:Str}{ps:List Str}{c:List PyData→Option Sl}{p pos:Pos}{e:Expr}{es:List Expr}{m:Bool}{g:oz}(D:OwnT n X.prog X.w X.K X.mg X.base k x ps (dD X.K c))(hr:Room k X.A)(hg:Gl X x)(ha:AX X (e::es) m g)
  (hdb:(x == ("__debug__":Str))=false:=by decide) (he:starEach (e::es) X.env=(false,eval e X.env)::starEach es X.env:=by rfl) (hpl:(backTo pos (starEach es X.env)).any (·.1)=false:=by rfl):
  CM X n (.Call (.Name x p) (e::es) [] pos) m (aj c g):=by
 refine xM (xL D hr hg ha hdb he hpl) fun σ H Q z=>?_
 obtain⟨B,E,xs,Xs,res,E',fr,cl,e,q⟩:=z
 obtain⟨⟨rs,E1⟩,e1,e⟩:=Za.mp e
 obtain⟨ds,e2,e⟩:=Za.mp e
 obtain⟨r,e3,e⟩:=Zab.mp e
 cases e
 refine⟨B,E,xs,Xs,rs,E1,fr,cl,e1,fun vs H1 hl ⟨F,A,fr1⟩=>?_⟩
 obtain⟨r1,A',fr2⟩:=fr1.looks hl e2
 exact⟨ds,res,e3,by rw[List.append_nil];exact r1,fun v H' g q'=>q v H' (fr2.told g q')⟩
theorem BM{nt:Nat}{P:Program}{w:World}{K:Frag}{mg:Str→Option Value}{base:Heap}{x:Str}{st:Stmt}{N ps:List Str}{k a n:Nat}{g:cR}(D:Def K mg x st ps)(S:FnScope N ps (ag st))(hpa:ps.length=a)(hNn:N.length=n)(hps:a≤n)
  (hbody:∀(f:Addr) (cdv:Value) (A:Around) (outer:List Env) (s:Shared) (H:Hp) (E:XK),Room k (A.deeper (PyProof.Rows.envOfC x (ag st) s.heap.objs.size f cdv))→
   pv (g9 pU P w K mg base N x (ag st) f cdv A outer s H E).nox nt (bh st) g):OwnT nt P w K mg base (k+1) x ps (dD K (eZ a n g)):=by
 subst hpa hNn
 refine D.ownT S (fun vs H Q E h=>?_) (fun f cdv A outer s H vs Q E hr h=>?_)
 ·obtain⟨ds,r,e,rp,_⟩:=h
  unfold eZ at e
  split at e
  ·rename_i hl
   rw[rp.len];exact hl
  ·cases e
 obtain⟨ds,r,e,rp,q⟩:=h
 unfold eZ at e
 split at e
 ·rename_i hl
  refine⟨_,hbody f cdv A outer s H E hr,?_⟩
  obtain⟨⟨E',fl⟩,e1,e⟩:=Za.mp e
  refine⟨H,bG N.length ds,[],[],E',fl,⟨H,[],j_ rp (by omega)⟩,rfl,e1,?_⟩
  cases fl with
  |nx=>
   cases e
   rintro σ' H' ⟨F',A',fr'⟩
   exact q _ _ (fr'.bf.trans fr'.fh) .non
  |bk=>cases e
  |ct=>cases e
  |rt r'=>
   rintro σ' v H' ⟨F',A',fr'⟩
   obtain⟨s1,s2⟩:=fr'.resultO e
   exact q v H' s1 s2
 ·cases e
section
variable {X:Cx} {P:Shared→Prop} {e:Expr} {m:Bool} {f:aO} {p pos:Pos}
theorem xR (hc:X.calm=true) (hg:Gl X "all") (hm:X.mg "all"=none) (ha:Ac X P e (rd X.K m f)) (he:starEach [e] X.env=[(false,eval e X.env)]) (hpl:(backTo pos (starEach [] X.env)).any (·.1)=false)
  (hw:∀whole,isTrue (.Call (.Name "all" p) [e] [] pos) X.env whole=(do let v ←whole;standAt (Expr.Call (.Name "all" p) [e] [] pos).pos;holding [v] (truthy v))):Cy X P (.Call (.Name "all" p) [e] [] pos) (rt X.K m (eL (bJ jW (ab false f ai)))):=by
 intro pins s σ H Q hn I z
 have z1:rd X.K m (bJ jW (ab false f ai)) σ H (fun v H'=>∃k,v=.bl k∧Q k H'):=qd z
 have z2:=uT (r:=ig X.K fun bs=>bs.all id) kC z1
 have z3:rd X.K m f σ H (fun v H'=>ig X.K (fun bs=>bs.all id) [v] H' fun v H'=>∃k,v=.bl k∧Q k H'):=by
  obtain⟨B,E,xs,Xs,res,E',fr,cl,e,q⟩:=z2
  obtain⟨⟨s1,E1⟩,e1,e⟩:=Za.mp e
  cases e
  exact⟨B,E,xs,Xs,s1,E1,fr,cl,e1,fun v H1 fr1=>q [v] H1 rfl fr1⟩
 refine isTrue_plain ?_ (hw _)
 refine wpAny_Call_Name_kw (i9 I hg hm PyProof.Rows.boot_all ?_ (by decide) (by decide))
 refine PyProof.Rows.callWith_builtin1 ?_ he hpl
 rw[he]
 refine Calls.spliced_cons (cr (ha pins s σ H _ hn I z3) fun u s1 w=>?_)
 obtain⟨v,H1,I1,r1,q1⟩:=w
 refine Calls.spliced_nil ?_
 refine cr (mj hc pins s1 σ H1 [v] [u] _ I1 (.cons r1 .nil) q1) fun u2 s2 w=>?_
 obtain⟨x,H2,I2,r2,k,rfl,q2⟩:=w
 exact p9 pins s2 σ H2 (.bl k) u2 Q I2 r2 ⟨k,rfl,q2⟩
end
section
variable {K:Frag} {X:Cx}
theorem Aj{m:Bool}{it:iJ}{g:gb}{b:cR}{D:Ends}{σ:L2.St}{H:Hp}(z:rs K (de it g b) D σ H):sy (ri K m it) (rg K g) (rs K b) D σ H:=by
 obtain⟨B,E,xs,Xs,E',fl,fr,cl,e,q⟩:=z
 obtain⟨⟨ds,E1⟩,e1,e⟩:=Za.mp e
 refine⟨B,E,xs,Xs,ds,E1,fr,fun _=>Calm.nil cl,e1,fun B' J H1 hB fr1 ok=>?_⟩
 refine⟨fun i mm σ' H'=>mm=ds.length - i∧i≤ds.length∧∃Ei,bL g b (ds.drop i) Ei=some (E',fl)∧Frm K B' σ' H' Ei xs Xs,⟨ds.length,by simp,Nat.zero_le _,E1,by simpa using e,fr1⟩,?_⟩
 rintro i mm σ' H' ⟨rfl,hi,Ei,ei,F,A,fri⟩
 obtain⟨go,stop⟩:=ok i (Same.refl _) fri
 by_cases hlt:i < ds.length
 ·obtain⟨d,ed⟩:∃d,ds[i]? =some d:=⟨ds[i],pS hlt⟩
  obtain⟨g1,yl⟩:=go d ed
  have edr:ds.drop i=d::ds.drop (i+1):=by
   rw[List.drop_eq_getElem_cons hlt]
   congr 1
   exact Option.some.inj ((pS hlt).symm.trans ed)
  rw[edr]at ei
  obtain⟨⟨E2,f2⟩,e2,ei⟩:=Za.mp ei
  obtain⟨E3,e3,e2⟩:=Za.mp e2
  refine .inr ⟨g1,fun σ2 H2=>∃Ej,bL g b (ds.drop (i+1)) Ej=some (E',fl)∧Frm K B' σ2 H2 Ej xs Xs,fun σ2 H2 ⟨Ej,ej,frj⟩=>⟨ds.length - (i+1),by omega,rfl,hlt,Ej,ej,frj⟩,fun x H2 y=>?_⟩
  refine⟨B',Ei,xs,Xs,d,E3,yl x H2 y,Still.nil cl,e3,fun σ3 H3 fr3=>?_⟩
  refine⟨B',E3,xs,Xs,E2,f2,fr3,cl,e2,?_⟩
  cases f2 with
  |nx=>exact fun σ4 H4 fr4=>⟨E2,ei,fr4⟩
  |ct=>exact fun σ4 H4 fr4=>⟨E2,ei,fr4⟩
  |bk=>cases ei;exact fun σ4 H4 fr4=>q _ _ (fr4.base hB)
  |rt r=>cases ei;exact fun σ4 v H4 fr4=>q _ _ _ (fr4.base hB)
 ·have e0:i=ds.length:=by omega
  refine .inl ⟨stop e0,?_⟩
  rw[e0,List.drop_length]at ei
  cases ei
  exact q _ _ (Frm.base ⟨F,A,fri⟩ hB)
theorem xS{m:Bool}{fi:aO}{i:Nat}{b:cR}{D:Ends}{σ:L2.St}{H:Hp}(z:rs K (de (kU fi) (aF i) b) D σ H):sy (ql (rd K m fi)) (jF i) (rs K b) D σ H:=by
 have a:sy (ri K m (kU fi)) (rg K (aF i)) (rs K b) D σ H:=Aj z
 refine tT rV (fun J H1 w=>?_) (Af a)
 obtain⟨W,w0,turn⟩:=w
 refine⟨W,w0,fun k m σ' H' wi=>?_⟩
 rcases turn k m σ' H' wi with st |⟨go,N,hN,step⟩
 ·exact .inl st
 ·exact .inr ⟨go,N,hN,fun x H2 y=>rT (step x H2 y)⟩
theorem BN{m:Bool}{c:gh}{g h:cR}{D:Ends}{σ:L2.St}{H:Hp}(z:rs K (cF c g h) D σ H):wA (rt K m c) (rs K g) (rs K h) D σ H:=by
 obtain⟨B,E,xs,Xs,E',fl,fr,cl,e,q⟩:=z
 obtain⟨⟨b1,E1⟩,e1,e⟩:=Za.mp e
 refine⟨B,E,xs,Xs,b1,E1,fr,fun _=>Calm.nil cl,e1,fun H1 fr1=>?_⟩
 cases b1 with
 |true=>exact(if_pos rfl).mpr ⟨B,E1,xs,Xs,E',fl,fr1,cl,e,q⟩
 |false=>exact(if_neg (by decide)).mpr ⟨B,E1,xs,Xs,E',fl,fr1,cl,e,q⟩
theorem xT{P:Shared→Prop}{st:List Stmt}{t t':TS}(h:xK X P st t)(k:∀D σ H,t' D σ H→t D σ H):xK X P st t':=fun pins s σ H D hn I q=>h pins s σ H D hn I (k D σ H q)
theorem vO{n:Nat}(i:Nat){m m2:Bool}{fi:aO}{nm:Str}{iter c:Expr}{a:List Stmt}{ct:gh}{g:cR}{pn pos p3:Pos}(hp:PassesOwn (model X.prog X.w) X.A X.env X.xe)(calm:X.calm=true)(hl:EX X iter m fi)(hN:X.N.Nodup)(hi:X.N[i]? =some nm)(hk:X.env.scope.names.lookup nm=some .cell)(hf:X.fn nm=true)(hc:Cy X (gZ n X nm) c (rt X.K m2 ct))(ha:rh X a g)
  (hs:∀x,foldedSetIterable iter X.env x=pure x:=by intro _;rfl):BL X n (.For (.Name nm pn) iter [.If c a [] p3] [] pos) (de (kU fi) (aF i) (cF ct g bK)):=
 nP (vN hp calm hl hN hi hk hf (xT (Ah hc ha cf) fun D σ H z=>BN z) hs) fun D σ H z=>xS z
def jP(ib ic io:Nat)(c:List PyData→Option Sl):aO:=fun E=>match E[ib]?,E[ic]?,E[io]? with
 |some (.sh (.str x)),some (.sh (.str y)),some (.sh d)=>if (y == ("":Str))=false∧x.length≤1000 then (c [.str (Txt.replace x y ""),d]).map fun r=>(r,E)else none
 |_,_,_=>none
theorem xU{io ib ic:Nat}{c:List PyData→Option Sl}{σ:L2.St}{H:Hp}{Q:VK}(z:rd K false (jP ib ic io c) σ H Q):kl (dD K c) [] E0 (jG (xF ib ic) (jG (og io) wF)) σ H Q:=by
 obtain⟨B,E,xs,Xs,res,E',⟨F,A,fr⟩,_,e,q⟩:=z
 unfold jP at e
 split at e
 case h_2=>cases e
 rename_i x y d e2 e3 e1
 split at e
 case isFalse=>cases e
 rename_i hc
 obtain⟨r,e4,e⟩:=Zab.mp e
 cases e
 obtain⟨o1,A1,s1,h1⟩:=fr.var e1
 obtain⟨v1,rfl,r1,_⟩:=h1.val fr.fh rfl
 obtain⟨o2,A2,s2,h2⟩:=fr.var e2
 obtain⟨v2,rfl,r2,_⟩:=h2.val fr.fh rfl
 obtain⟨o3,A3,s3,h3⟩:=fr.var e3
 obtain⟨v3,rfl,r3,_⟩:=h3.val fr.fh rfl
 cases r2
 cases r3
 refine⟨x,y,s2,s3,hc.1,hc.2,v1,s1,?_⟩
 exact⟨_,_,e4,.cons (.str _) (.cons r1 .nil),fun v H' g q'=>q v H' (fr.told g q')⟩
theorem Ak{m:Bool}{i:Nat}{σ:L2.St}{H:Hp}{Q:VK}(z:rd K m (aa i) σ H Q):og i σ H Q:=by
 have h:=z
 obtain⟨B,E,xs,Xs,r,E',⟨F,A,fr⟩,_,e,q⟩:=h
 unfold aa at e
 split at e
 ·rename_i d ei
  cases e
  obtain⟨o,A1,eo,rfl,v,rfl,rp⟩:=fr.var ei
  exact⟨v,eo,q v H ⟨F,A,fr.push ⟨rfl,v,rfl,rp⟩⟩⟩
 ·rename_i ds ei
  cases e
  obtain⟨o,A1,eo,l,vs,rfl,_⟩:=fr.var ei
  exact⟨_,eo,q _ H ⟨F,A,fr.push ⟨rfl,_,rfl,eo⟩⟩⟩
 ·rename_i ds ei
  cases e
  obtain⟨o,A1,eo,l,vs,A2,rfl,_⟩:=fr.var ei
  exact⟨_,eo,q _ H ⟨F,A,fr.push ⟨rfl,_,rfl,eo⟩⟩⟩
 ·rename_i ds ei
  cases e
  obtain⟨o,A1,eo,l,vs,rfl,_⟩:=fr.var ei
  exact⟨_,eo,q _ H ⟨F,A,fr.push ⟨rfl,_,rfl,eo⟩⟩⟩
 ·cases e
theorem qG{tl tl':TE}{σ:L2.St}{H:Hp}{R R':It→Hp→Prop}(ht:∀Q Q':VK,(∀v H,Q v H→Q' v H)→tl σ H Q→tl' σ H Q')(hR:∀J H,R J H→R' J H)(z:ki K tl σ H R):ki K tl' σ H R':=ht _ _ (fun v H1 w=>let ⟨x,e,s,r⟩:=w;⟨x,e,s,hR _ _ r⟩) z
theorem xV{m:Bool}{f:aO}{σ:L2.St}{H:Hp}{R:It→Hp→Prop}(z:B3 K m (gn f) σ H R):ki K (rd K m f) σ H R:=by
 obtain⟨B,E,xs,Xs,ds,E',fr,cl,e,q⟩:=z
 obtain⟨⟨s,E1⟩,e1,e⟩:=Za.mp e
 simp only at e
 split at e
 ·rename_i ds' ld
  cases e
  refine⟨B,E,xs,Xs,s,_,fr,cl,e1,fun v H1 ⟨F,A,fr1⟩=>?_⟩
  obtain⟨r,_⟩:=fr1.look0 ld
  obtain⟨A',fr2⟩:=fr1.pop
  cases r with
  |lst h1 h2=>exact⟨_,rfl,⟨_,h1⟩,q _ _ ⟨F,A',fr2⟩ (jh h1 h2)⟩
 ·cases e
theorem vP{iy:Nat}{js:List (Option Nat)}{io ib ic:Nat}{c:List PyData→Option Sl}{σ:L2.St}{H:Hp}{Q:VK}(z:rd K false (bd js (gn (aa iy)) (aF 0) aR (jP ib ic io c)) σ H Q):jH js (ki K (og iy)) (jF 0) zu (kl (dD K c) [] E0 (jG (xF ib ic) (jG (og io) wF))) σ H Q:=by
 have a:jH js (B3 K false (gn (aa iy))) (rg K (aF 0)) zu (rd K false (jP ib ic io c)) σ H Q:=oI (m2:=false) (fun σ H Q z=>by
  obtain⟨B,E,xs,Xs,b,E',fr,cl,e,q⟩:=z
  cases e
  exact q _ fr) z
 refine qG (fun Q Q' h z=>Ak (rV Q Q' h z)) (fun J H1 w l hl=>?_) (xV a)
 obtain⟨W,w0,turn⟩:=w l hl
 refine⟨W,w0,fun i m σ' H' wi=>?_⟩
 rcases turn i m σ' H' wi with st |⟨go,N,hN,step⟩
 ·exact .inl st
 ·exact .inr ⟨go,N,hN,fun x H2 y=>xU (rT (step x H2 y))⟩
theorem vQ {n iy:Nat} {y nm o:Str} {py po pos:Pos} {js:List (Option Nat)} {io ib ic:Nat} {c:List PyData→Option Sl} {elt:Expr} {scope sc:Scope} {cl:List (Str×Addr)} {N:List Str} (C:CompOk X scope sc cl N js) (hc:X.calm=true) (ny:X.N[iy]? =some y) (vy:wu X.env.scope y) (dy:(y == ("__debug__":Str))=false) (ky:(y == ("__classdict__":Str))=false) (hfn:X.fn nm=true) (hlk:sc.names.lookup nm=some .cell∨sc.names.lookup nm=some .free) (hN0:N[0]? =some o) (hNd:N.Nodup) (hlo:sc.names.lookup o=some .local)
  (hee:∀C s₀ H₀ fp,Ac (X.comp sc cl N C s₀ H₀ fp) (gZ n (X.comp sc cl N C s₀ H₀ fp) nm) elt (kl (dD X.K c) [] E0 (jG (xF ib ic) (jG (og io) wF)))) (hs:∀x,foldedSetIterable (.Name y py) X.env x=pure x):
  Ac X (gZ n X nm) (.ListComp elt [⟨.Name o po,.Name y py,[],0⟩] scope pos) (rd X.K false (bd js (gn (aa iy)) (aF 0) aR (jP ib ic io c))):=by
 intro pins s σ H Q hP I z
 rw[eval_ListComp]
 refine vL (use:=none) C hc ny vy dy ky hfn hlk (fun C s₀ H₀ fp=>mS (X:=X.comp sc cl N C s₀ H₀ fp) hNd hN0 (.inl hlo) (.inr hlo)) (fun _ _ _ _=>j7) hee hs pins s σ H Q hP I (vP z) fun D C H4 s5 m IX hn fC nL _ sz nc np qn=>?_
 exact⟨m,hn,fun h' hs'=>⟨.ref D,H4,IX.turned (t':=s5.toks) (it:=C) (fun b o hb e=>(hs'.2 b hb).trans e) fC nL (.inr sz) nc np,rfl,qn⟩⟩
end
end PL
namespace Nhk34
open PySem L2 Nh PL
def gO:cR:=(bq (kr (lD (kz .str) (aa 0)) (kr (af jU false (bJ eD (ab false (aa 0) ai)) (pC (.int 1))) (eC (dE .le) (dE .le) false false (pC (.str "a")) (aa 0) (pC (.str "z"))))))
def dO:List PyData→Option Sl:=eZ 1 1 gO
def d0:gb:=(aF 1)
def d_:cR:=(cF (bS (dW (aj dO (ab false (aa 1) ai))))
 qm
 bK)
def iV:cR:=(aX (cF (bS (dW (lD (kz .str) (aa 0))))
 qm
 bK)
 (aX (de (bH (aa 0)) d0
 d_)
 (bq (fJ "" (dY (aa 0))))))
def cN:List PyData→Option Sl:=eZ 1 2 iV
def dl:gb:=(aF 3)
def dm:cR:=(aX (cF (eL (af (yD false) false (aa 3) (aa 0)))
 (aL 1 (af dC false (aa 1) (aa 2)))
 bK)
 (aL 2 (af iL false (aa 2) (pC (.int 2)))))
def gP:cR:=(aX (aL 1 (pC (.int 0)))
 (aX (aL 2 (pC (.int 1)))
 (aX (de (bH (pC (.str "abcdefghijklmnopqrstuvwxyz"))) dl
 dm)
 (bq (aa 1)))))
def a_:List PyData→Option Sl:=eZ 1 4 gP
def cX:cR:=(bq (nO (aa 0)))
def aJ:List PyData→Option Sl:=eZ 1 1 cX
def aW:gb:=(aF 2)
def aM:cR:=(cF (eL (af jU false (af oP false (aa 2) (aa 0)) (aa 2)))
 (bq (pC (.bool true)))
 bK)
def b8:cR:=(aX (de (bH (aa 1)) aW
 aM)
 (bq (pC (.bool false))))
def aB:List PyData→Option Sl:=eZ 2 3 b8
def bM:gb:=(aF 2)
def bt:cR:=(cF (eL (af jU false (af oP false (aa 2) (aa 0)) (pC (.int 0))))
 (bq (pC (.bool false)))
 bK)
def dq:cR:=(aX (de (bH (aa 1)) bM
 bt)
 (bq (pC (.bool true))))
def bA:List PyData→Option Sl:=eZ 2 3 dq
def bW:gb:=(aF 3)
def bB:cR:=(aX (aL 4 (aj a_ (ab false (aa 3) ai)))
 (cF (bS (dW (aj aB (ab false (aa 4) (ab false (aa 2) ai)))))
 (aX (fk (dh 2 (aa 4)))
 (fk (dh 1 (aa 3))))
 bK))
def e9:cR:=(aX (aL 1 (h8 gS))
 (aX (aL 2 (h8 gS))
 (aX (de (bH (aj aJ (ab false (aa 0) ai))) bW
 bB)
 (bq (aa 1)))))
def bC:List PyData→Option Sl:=eZ 1 5 e9
def dS:gb:=(aF 0)
def cS:aO:=(af dC false (aa 0) (aa 1))
def cA:gb:=(aF 2)
def cB:cR:=(aL 1 (af dC false (aa 1) (bd [none,some 2] (bH (aa 1)) dS aR cS)))
def e_:cR:=(aX (aL 1 (h8 (fG (pC (.str "")) gS)))
 (aX (de (bH (aa 0)) cA
 cB)
 (bq (aa 1))))
def bD:List PyData→Option Sl:=eZ 1 3 e_
def eQ:cR:=(cF (eL (af (fF (dE .gt)) false (bJ eD (ab false (aa 0) ai)) (pC (.int 10))))
 qm
 bK)
def bX:List PyData→Option Sl:=eZ 1 1 eQ
def dU:cR:=(bq (aj cN (ab false (fJ "" (aa 0)) ai)))
def be:List PyData→Option Sl:=eZ 1 1 dU
def bN:gb:=(aF 0)
def bO:aO:=(aj cN (ab false (aa 0) ai))
def eR:cR:=(bq (aj bC (ab false (bd [none] (bH (aa 0)) bN aR bO) ai)))
def aC:List PyData→Option Sl:=eZ 1 1 eR
def bi:gb:=(aF 0)
def bj:aO:=(aj a_ (ab false (aa 0) ai))
def bn:gb:=(aF 0)
def bp:aO:=(aa 0)
def aT:gh:=(dW (aj bA (ab false (aj a_ (ab false (aa 0) ai)) (ab false (aa 1) ai))))
def cH:cR:=(aX (aL 1 (bd [none] (bH (aj aC (ab false (aa 0) ai))) bi aR bj))
 (aX (aL 2 (aj be (ab false (aa 0) ai)))
 (aX (fk (aj bX (ab false (aa 2) ai)))
 (bq (aj bC (ab false (bd [none,some 1] (bH (aj bD (ab false (aa 2) ai))) bn aT bp) ai))))))
def am:List PyData→Option Sl:=eZ 1 3 cH
def iW:cR:=(aX (cF (eL (af (fF (dE .lt)) false (aa 1) (bJ eD (ab false (aa 0) ai))))
 (bq (af sN false (aa 0) (aa 1)))
 bK)
 (bq (pC (.int 0))))
def au:List PyData→Option Sl:=eZ 2 2 iW
def fX:cR:=(aX (aL 2 (af cZ false (af dC false (af dC false (af dC false (af cZ false (aa 0) (pC (.int 2147483629))) (af iL false (pC (.int 7919)) (aa 1))) (af iL false (aa 1) (aa 1))) (pC (.int 11))) (pC (.int 2147483629))))
 (aX (aL 2 (af cZ false (af iL false (aa 2) (aa 2)) (pC (.int 2147483587))))
 (bq (af cw false (af cZ false (af dC false (af iL false (aa 2) (pC (.int 48271))) (af iL false (pC (.int 31)) (aa 1))) (pC (.int 2147483563))) (pC (.int 13))))))
def cb:List PyData→Option Sl:=eZ 2 3 fX
def cI:gb:=(aF 0)
def b9:aO:=(af sN false (aa 1) (af cZ false (af dC false (aa 2) (af iL false (aa 0) (aa 3))) (pC (.int 26))))
def fv:cR:=(aX (aL 2 (pC (.str "abcdefghijklmnopqrstuvwxyz")))
 (aX (aL 3 (af sN false (h8 (uY [1,3,5,7,9,11,15,17,19,21,23,25])) (af cZ false (af cw false (aa 0) (pC (.int 26))) (pC (.int 12)))))
 (bq (bd [none,some 2,some 0,some 3] (eG (ab false (aa 1) ai)) cI aR b9))))
def bw:List PyData→Option Sl:=eZ 2 4 fv
def cO:gb:=(aF 0)
def ck:aO:=(af sN false (aa 1) (aa 0))
def cq:gh:=(eL (af jU false (af oP false (af u5 false (aa 2) (aa 0)) (pC (.int 1))) (pC (.int 1))))
def gQ:cR:=(bq (fJ "" (bd [none,some 1,some 0] (eG (ab false (bJ eD (ab false (aa 1) ai)) ai)) cO cq ck)))
def c8:List PyData→Option Sl:=eZ 2 2 gQ
def eJ:gb:=(aF 0)
def cY:aO:=(af sN false (aa 1) (af cZ false (af cw false (aa 2) (aa 0)) (bJ eD (ab false (aa 1) ai))))
def bP:gb:=(aF 6)
def bu:cR:=(aX (cF (rn (eL (af (fF (dE .lt)) false (bJ eD (ab false (aa 1) ai)) (pC (.int 10)))) (bS (eL (eC (dE .lt) (dE .lt) false false (lD sM (af oB false (pC (.int 10)) (pC (.int 18)))) (aa 3) (af oB false (pC (.int 10)) (pC (.int 18)))))))
 (aX (aL 7 (aj c8 (ab false (af cZ false (aa 4) (af u6 false (pC (.int 1)) (bJ eD (ab false (aa 1) ai)))) (ab false (aa 1) ai))))
 (aL 4 (af cw false (aa 4) (af u6 false (pC (.int 1)) (bJ eD (ab false (aa 1) ai))))))
 (aX (aL 8 (aj cb (ab false (aj au (ab false (aa 0) (ab false (af dC false (pC (.int 3)) (aa 6)) ai))) (ab false (aa 6) ai))))
 (aX (aL 9 (bd [none,some 1,some 8] (bH (xb (fG (pC (.int 1)) (fG (pC (.int 11)) (fG (pC (.int 131)) (fG (pC (.int 1009)) gS)))))) eJ aR cY))
 (aL 7 (fJ "" (dY (oS false (aa 9) jK (jL (af dC false (pC (.int 2)) (af cZ false (af cw false (aa 8) (pC (.int 10007))) (pC (.int 3))))))))))))
 (cF (nh (eL (af AG false (aa 7) (pC (.str "")))) (eL (af jU false (af cZ false (af cw false (aj au (ab false (aa 0) (ab false (pC (.int 1)) ai))) (pC (.int 6))) (pC (.int 8))) (pC (.int 1)))))
 (fk (dh 2 (aa 7)))
 bK))
def dr:cR:=(aX (aL 2 (h8 gS))
 (aX (aL 3 (aj au (ab false (aa 0) (ab false (pC (.int 2)) ai))))
 (aX (aL 4 (af cw false (aa 3) (pC (.int 26))))
 (aX (aL 5 (af cZ false (af cw false (aa 3) (pC (.int 2))) (pC (.int 13))))
 (aX (cF (eL (af (fF (dE .gt)) false (bJ eD (ab false (aa 1) ai)) (pC (.int 6))))
 (aL 5 (bJ sP (ab false (aa 5) (ab false (pC (.int 3)) ai))))
 bK)
 (aX (de (eG (ab false (aa 5) ai)) bP
 bu)
 (bq (aa 2))))))))
def bE:List PyData→Option Sl:=eZ 2 10 dr
def cJ:gb:=(aF 0)
def b_:aO:=(af (yD false) false (aa 0) (aa 1))
def ee:cR:=(bq (bJ xl (ab false (bd [none,some 1] (bH (aa 0)) cJ aR b_) ai)))
def aU:List PyData→Option Sl:=eZ 2 2 ee
def cD:gb:=(aF 0)
def bU:aO:=(aj aU (ab false (aa 1) (ab false (aa 0) ai)))
def aV:gh:=(eL (bJ jW (ab false (bd [none,some 0,some 2] (gn (aa 1)) (aF 0) aR (jP 1 2 0 aU)) ai)))
def cK:cR:=(aX (cF (bS (dW (bJ jW (ab false (bd [none,some 0] (bH (aa 1)) cD aR bU) ai))))
 (bq (pC (.bool false)))
 bK)
 (aX (de (kU (aa 0)) (aF 2) (cF aV (bq (pC (.bool false))) bK))
 (bq (pC (.bool true)))))
def aY:List PyData→Option Sl:=eZ 2 3 cK
def gy:gb:=(aF 0)
def fb:aO:=(lD (kz .str) (aa 0))
def fO:gb:=(aF 5)
def fP:cR:=(cF (bS (dW (aj aY (ab false (aa 5) (ab false (aa 3) ai)))))
 (bq (pC (.bool false))) bK)
def pA:cR:=(aX (aL 1 (af dC false (pC (.int 1)) (af cZ false (aj au (ab false (aa 0) (ab false (pC (.int 1)) ai))) (pC (.int 6)))))
 (aX (cF (eL (af jU false (af cZ false (af cw false (aj au (ab false (aa 0) (ab false (pC (.int 1)) ai))) (pC (.int 48))) (pC (.int 8))) (pC (.int 5))))
 (aL 1 (pC (.int 10)))
 bK)
 (aX (aL 2 (iO (aj bw (ab false (aj au (ab false (aa 0) (ab false (pC (.int 0)) ai))) (ab false (aa 1) ai)))))
 (aX (aL 3 (aj bE (ab false (aa 0) (ab false (aa 2) ai))))
 (aX (aL 4 (aj am (ab false (c7 (aa 3)) ai)))
 (aX (cF (nh (bS (dW (lD (kz .list) (aa 4)))) (bS (dW (bJ jW (ab false (bd [none] (gn (aa 4)) gy aR fb) ai)))))
 (bq (pC (.bool false)))
 bK)
 (aX (de (bH (aa 4)) fO
 fP)
 (aX (aL 6 (aj aC (ab false (c7 (aa 3)) ai)))
 (bq (kr (af jU false (aj am (ab false (c7 (aa 4)) ai)) (aa 6)) (af jU false (aj am (ab false (c7 (aa 6)) ai)) (aa 4))))))))))))
def ir:List PyData→Option Sl:=eZ 1 7 pA
end Nhk34
namespace Nhk34
open PySem L2 Nh PL
def mG(i:Nat):Stmt:=PySem.Challenge.pw_nailhang_k34_meeting_twice.main.body.getD i (.Pass ⟨0,0,0,0⟩)
section
variable {P:Program} {w:World} {K:Frag} {mg:Str→Option Value} {base:Heap}
abbrev jw:Stmt:=mG 5
theorem qH:FnScope ["thing"] ["thing"] (ag jw):=by and_intros
theorem qI (D:Def K mg "is_nail" jw ["thing"]) (B:Bn mg):Own P w K mg base 1 "is_nail" ["thing"] (dD K dO):=by
 delta dO
 refine gm (g:=gO) D qH rfl rfl (by decide) fun f cdv A outer s H E hr=>?_
 delta gO
 exact(ao (ba (qe (ni .str (by rfl) (by exact B.isinstance) (ad 0) (by rfl) (by exact B.str) PyProof.Rows.boot_str) (qe (uM hr.units (fT (by rfl) (by exact B.len) (ah (ad 0) ar)) ak) (uO (Bx .le .le kq (ad 0) kq))))))
abbrev kX:Stmt:=mG 7
theorem sc_set_of:FnScope ["nails","sign"] ["nails"] (ag kX):=by and_intros
theorem tV (D:Def K mg "set_of" kX ["nails"]) (B:Bn mg) (D_is_nail:Own P w K mg base 1 "is_nail" ["thing"] (dD K dO)):Own P w K mg base 2 "set_of" ["nails"] (dD K cN):=by
 delta cN
 refine gm (g:=iV) D sc_set_of rfl rfl (by decide) fun f cdv A outer s H E hr=>?_
 delta iV
 exact(aq (fm (hZ (h7 (ni .str (by rfl) (by exact B.isinstance) (ad 0) (by rfl) (by exact B.str) PyProof.Rows.boot_str)))
 (ao kB)
 cf)
 (aq (h9 PassesOwn.never (by rfl) (di (ad 0)) (by delta d0;exact(bI 1 sc_set_of.nd))
 (by delta d_;exact(ao (fm (hZ (h7 (aQ D_is_nail (hr.mono (by decide)) (by rfl) (ah (ad 1) ar))))
 (ao kB)
 cf))))
 (ao (ba (ka (kM rfl (by rfl) (by exact B.sorted) (by rfl) (by exact B.set) (ad 0)))))))
abbrev jx:Stmt:=mG 11
theorem sc_bits_of:FnScope ["nails","bits","bit","letter"] ["nails"] (ag jx):=by and_intros
theorem qJ (D:Def K mg "bits_of" jx ["nails"]) (B:Bn mg) {t_LETTERS:Tok} (G_LETTERS:mg "LETTERS"=some (.str "abcdefghijklmnopqrstuvwxyz" t_LETTERS)):Own P w K mg base 1 "bits_of" ["nails"] (dD K a_):=by
 delta a_
 refine gm (g:=gP) D sc_bits_of rfl rfl (by decide) fun f cdv A outer s H E hr=>?_
 delta gP
 exact(aq (aS 1 sc_bits_of.nd ak)
 (aq (aS 2 sc_bits_of.nd ak)
 (aq (h9 PassesOwn.never (by rfl) (di (xo (by rfl) (by exact G_LETTERS))) (by delta dl;exact(bI 3 sc_bits_of.nd))
 (by delta dm;exact(aq (fm (BB (ad 3) (ad 0))
 (ao (aS 1 sc_bits_of.nd (eY (ad 1) (ad 2))))
 cf)
 (ao (aS 2 sc_bits_of.nd (hO (ad 2) ak))))))
 (ao (ba (ad 1))))))
abbrev bQ:Stmt:=mG 12
theorem jy:FnScope ["sets"] ["sets"] (ag bQ):=by and_intros
theorem jz {c T:Addr} (D:DefT K mg "in_told_order" bQ ["sets"] c T) (B:Bn mg):Own P w K mg base 1 "in_told_order" ["sets"] (dD K aJ):=by
 delta aJ
 refine ownT (g:=cX) D jy rfl rfl (by decide) fun f A outer s H E hr=>?_
 delta cX
 exact(ao (ba (vw rfl D.tp D.hd hr (by rfl) (by exact B.sorted) (by exact B.len) (ad 0) (by show(Str.ofString "in_told_order"++Str.ofString ".<locals>.")++Str.ofString "<lambda>"=_;decide+kernel))))
abbrev dP:Stmt:=mG 13
theorem sc_has_part_among:FnScope ["bits","parts","part"] ["bits","parts"] (ag dP):=by and_intros
theorem iX (D:Def K mg "has_part_among" dP ["bits","parts"]) (B:Bn mg):Own P w K mg base 1 "has_part_among" ["bits","parts"] (dD K aB):=by
 delta aB
 refine gm (g:=b8) D sc_has_part_among rfl rfl (by decide) fun f cdv A outer s H E hr=>?_
 delta b8
 exact(aq (h9 PassesOwn.never (by rfl) (di (ad 1)) (by delta aW;exact(bI 2 sc_has_part_among.nd))
 (by delta aM;exact(ao (fm (oD hr.units (nn (ad 2) (ad 0)) (ad 2))
 (ao (ba iK))
 cf))))
 (ao (ba iK)))
abbrev fY:Stmt:=mG 14
theorem sc_meets_each:FnScope ["bits","others","other"] ["bits","others"] (ag fY):=by and_intros
theorem lJ (D:Def K mg "meets_each" fY ["bits","others"]) (B:Bn mg):Own P w K mg base 1 "meets_each" ["bits","others"] (dD K bA):=by
 delta bA
 refine gm (g:=dq) D sc_meets_each rfl rfl (by decide) fun f cdv A outer s H E hr=>?_
 delta dq
 exact(aq (h9 PassesOwn.never (by rfl) (di (ad 1)) (by delta bM;exact(bI 2 sc_meets_each.nd))
 (by delta bt;exact(ao (fm (oD hr.units (nn (ad 2) (ad 0)) ak)
 (ao (ba iK))
 cf))))
 (ao (ba iK)))
abbrev iu:Stmt:=mG 15
theorem sc_least_of:FnScope ["sets","told","kept","nails","bits"] ["sets"] (ag iu):=by and_intros
theorem pB (D:Def K mg "least_of" iu ["sets"]) (B:Bn mg) (D_in_told_order:Own P w K mg base 1 "in_told_order" ["sets"] (dD K aJ)) (D_bits_of:Own P w K mg base 1 "bits_of" ["nails"] (dD K a_)) (D_has_part_among:Own P w K mg base 1 "has_part_among" ["bits","parts"] (dD K aB)):Own P w K mg base 2 "least_of" ["sets"] (dD K bC):=by
 delta bC
 refine gm (g:=e9) D sc_least_of rfl rfl (by decide) fun f cdv A outer s H E hr=>?_
 delta e9
 exact(aq (aS 1 sc_least_of.nd (kt jf))
 (aq (aS 2 sc_least_of.nd (kt jf))
 (aq (h9 PassesOwn.never (by rfl) (di (aQ D_in_told_order (hr.mono (by decide)) (by rfl) (ah (ad 0) ar))) (by delta bW;exact(bI 3 sc_least_of.nd))
 (by delta bB;exact(aq (aS 4 sc_least_of.nd (aQ D_bits_of (hr.mono (by decide)) (by rfl) (ah (ad 3) ar)))
 (ao (fm (hZ (h7 (aQ D_has_part_among (hr.mono (by decide)) (by rfl) (ah (ad 4) (ah (ad 2) ar)))))
 (aq (j9 (jg 2 (ad 4)))
 (ao (j9 (jg 1 (ad 3)))))
 cf)))))
 (ao (ba (ad 1))))))
abbrev iv:Stmt:=mG 16
theorem sc_all_sets:FnScope ["nails","sets","nail"] ["nails"] (ag iv):=by and_intros
theorem pD (D:Def K mg "all_sets" iv ["nails"]) (B:Bn mg):Own P w K mg base 1 "all_sets" ["nails"] (dD K bD):=by
 delta bD
 refine gm (g:=e_) D sc_all_sets rfl rfl (by decide) fun f cdv A outer s H E hr=>?_
 delta e_
 exact(aq (aS 1 sc_all_sets.nd (kt (gK kq jf)))
 (aq (h9 PassesOwn.never (by rfl) (di (ad 0)) (by delta cA;exact(bI 2 sc_all_sets.nd))
 (by delta cB;exact(ao (aS 1 sc_all_sets.nd (eY (ad 1) (fH (N:=["chosen","nail"]) (js:=[none,some 2]) dX (by rfl) (di (ad 1)) (fun _ _ _ _=>(by delta dS;exact(bI 0 (show(["chosen","nail"]:List Str).Nodup by decide+kernel)))) (fun _ _ _ _=>(by delta cS;exact(eY (ad 0) (ad 1))))))))))
 (ao (ba (ad 1)))))
abbrev fZ:Stmt:=mG 17
theorem lK:FnScope ["nails"] ["nails"] (ag fZ):=by and_intros
theorem lM (D:Def K mg "check_many" fZ ["nails"]) (B:Bn mg) {t_MOST_NAILS:Tok} (G_MOST_NAILS:mg "MOST_NAILS"=some (.int 10 t_MOST_NAILS)):Own P w K mg base 1 "check_many" ["nails"] (dD K bX):=by
 delta bX
 refine gm (g:=eQ) D lK rfl rfl (by decide) fun f cdv A outer s H E hr=>?_
 delta eQ
 exact(ao (fm (rB .gt (fT (by rfl) (by exact B.len) (ah (ad 0) ar)) (xn (by rfl) (by exact G_MOST_NAILS)))
 (ao kB)
 cf))
abbrev fB:Stmt:=mG 18
theorem kY:FnScope ["sets"] ["sets"] (ag fB):=by and_intros
theorem kZ (D:Def K mg "nails_among" fB ["sets"]) (B:Bn mg) (D_set_of:Own P w K mg base 2 "set_of" ["nails"] (dD K cN)):Own P w K mg base 3 "nails_among" ["sets"] (dD K be):=by
 delta be
 refine gm (g:=dU) D kY rfl rfl (by decide) fun f cdv A outer s H E hr=>?_
 delta dU
 exact(ao (ba (aQ D_set_of (hr.mono (by decide)) (by rfl) (ah (ka (ad 0)) ar))))
abbrev f6:Stmt:=mG 19
theorem lN:FnScope ["family"] ["family"] (ag f6):=by and_intros
theorem lO (D:Def K mg "least_sets" f6 ["family"]) (B:Bn mg) (D_set_of:Own P w K mg base 2 "set_of" ["nails"] (dD K cN)) (D_least_of:Own P w K mg base 2 "least_of" ["sets"] (dD K bC)):Own P w K mg base 3 "least_sets" ["family"] (dD K aC):=by
 delta aC
 refine gm (g:=eR) D lN rfl rfl (by decide) fun f cdv A outer s H E hr=>?_
 delta eR
 exact(ao (ba (aQ D_least_of (hr.mono (by decide)) (by rfl) (ah (fH (N:=["nails"]) (js:=[none]) g_ (by rfl) (di (ad 0)) (fun _ _ _ _=>(by delta bN;exact(bI 0 (show(["nails"]:List Str).Nodup by decide+kernel)))) (fun _ _ _ _=>(by delta bO;exact(aQ D_set_of (hr.mono (by decide)) (by rfl) (ah (ad 0) ar))))) ar))))
abbrev fc:Stmt:=mG 20
theorem sc_meeting_sets:FnScope ["family","others","nails"] ["family"] (ag fc):=by and_intros
theorem jZ (D:Def K mg "meeting_sets" fc ["family"]) (B:Bn mg) (D_least_sets:Own P w K mg base 3 "least_sets" ["family"] (dD K aC)) (D_bits_of:Own P w K mg base 1 "bits_of" ["nails"] (dD K a_)) (D_nails_among:Own P w K mg base 3 "nails_among" ["sets"] (dD K be)) (D_check_many:Own P w K mg base 1 "check_many" ["nails"] (dD K bX)) (D_all_sets:Own P w K mg base 1 "all_sets" ["nails"] (dD K bD)) (D_meets_each:Own P w K mg base 1 "meets_each" ["bits","others"] (dD K bA)) (D_least_of:Own P w K mg base 2 "least_of" ["sets"] (dD K bC)):Own P w K mg base 4 "meeting_sets" ["family"] (dD K am):=by
 delta am
 refine gm (g:=cH) D sc_meeting_sets rfl rfl (by decide) fun f cdv A outer s H E hr=>?_
 delta cH
 exact(aq (aS 1 sc_meeting_sets.nd (fH (N:=["nails"]) (js:=[none]) g_ (by rfl) (di (aQ D_least_sets (hr.mono (by decide)) (by rfl) (ah (ad 0) ar))) (fun _ _ _ _=>(by delta bi;exact(bI 0 (show(["nails"]:List Str).Nodup by decide+kernel)))) (fun _ _ _ _=>(by delta bj;exact(aQ D_bits_of (hr.mono (by decide)) (by rfl) (ah (ad 0) ar))))))
 (aq (aS 2 sc_meeting_sets.nd (aQ D_nails_among (hr.mono (by decide)) (by rfl) (ah (ad 0) ar)))
 (aq (j9 (aQ D_check_many (hr.mono (by decide)) (by rfl) (ah (ad 2) ar)))
 (ao (ba (aQ D_least_of (hr.mono (by decide)) (by rfl) (ah (oJ (N:=["chosen","others"]) (js:=[none,some 1]) dX (by rfl) (di (aQ D_all_sets (hr.mono (by decide)) (by rfl) (ah (ad 2) ar))) (fun _ _ _ _=>(by delta bn;exact(bI 0 (show(["chosen","others"]:List Str).Nodup by decide+kernel)))) (fun _ _ _ _=>(by delta aT;exact(h7 (aQ D_meets_each (hr.mono (by decide)) (by rfl) (ah (aQ D_bits_of (hr.mono (by decide)) (by rfl) (ah (ad 0) ar)) (ah (ad 1) ar)))))) (fun _ _ _ _=>(by delta bp;exact(ad 0)))) ar)))))))
abbrev k_:Stmt:=mG 22
theorem tW:FnScope ["_law_script","_law_k"] ["_law_script","_law_k"] (ag k_):=by and_intros
theorem tX (D:Def K mg "_law_at" k_ ["_law_script","_law_k"]) (B:Bn mg):Own P w K mg base 1 "_law_at" ["_law_script","_law_k"] (dD K au):=by
 delta au
 refine gm (g:=iW) D tW rfl rfl (by decide) fun f cdv A outer s H E hr=>?_
 delta iW
 exact(aq (fm (rB .lt (ad 1) (fT (by rfl) (by exact B.len) (ah (ad 0) ar)))
 (ao (ba (oH (ad 0) (ad 1))))
 cf)
 (ao (ba ak)))
abbrev iw:Stmt:=mG 23
theorem sc_law_stir:FnScope ["_law_cell","_law_k","_law_value"] ["_law_cell","_law_k"] (ag iw):=by and_intros
theorem pE (D:Def K mg "_law_stir" iw ["_law_cell","_law_k"]) (B:Bn mg):Own P w K mg base 1 "_law_stir" ["_law_cell","_law_k"] (dD K cb):=by
 delta cb
 refine gm (g:=fX) D sc_law_stir rfl rfl (by decide) fun f cdv A outer s H E hr=>?_
 delta fX
 exact(aq (aS 2 sc_law_stir.nd (dJ (eY (eY (eY (dJ (ad 0) ak) (hO ak (ad 1))) (hO (ad 1) (ad 1))) ak) ak))
 (aq (aS 2 sc_law_stir.nd (dJ (hO (ad 2) (ad 2)) ak))
 (ao (ba (eM (dJ (eY (hO (ad 2) ak) (hO ak (ad 1))) ak) ak)))))
abbrev gz:Stmt:=mG 24
theorem sc_law_nails:FnScope ["_law_cell","_law_many","_law_letters","_law_step"] ["_law_cell","_law_many"] (ag gz):=by and_intros
theorem nR (D:Def K mg "_law_nails" gz ["_law_cell","_law_many"]) (B:Bn mg):Own P w K mg base 1 "_law_nails" ["_law_cell","_law_many"] (dD K bw):=by
 delta bw
 refine gm (g:=fv) D sc_law_nails rfl rfl (by decide) fun f cdv A outer s H E hr=>?_
 refine qk 1 [1,3,5,7,9,11,15,17,19,21,23,25] rfl rfl fun es hes=>?_
 delta fv
 exact(aq (aS 2 sc_law_nails.nd kq)
 (aq (aS 3 sc_law_nails.nd (oH (kt (rA hes)) (dJ (eM (ad 0) ak) ak)))
 (ao (ba (fH (N:=["_law_k","_law_letters","_law_cell","_law_step"]) (js:=[none,some 2,some 0,some 3]) dX (by rfl) (ji (by rfl) (by exact B.range) (ah (ad 1) ar)) (fun _ _ _ _=>(by delta cI;exact(bI 0 (show(["_law_k","_law_letters","_law_cell","_law_step"]:List Str).Nodup by decide+kernel)))) (fun _ _ _ _=>(by delta b9;exact(oH (ad 1) (dJ (eY (ad 2) (hO (ad 0) (ad 3))) ak)))))))))
abbrev jA:Stmt:=mG 25
theorem qK:FnScope ["_law_mask","_law_some"] ["_law_mask","_law_some"] (ag jA):=by and_intros
theorem qL (D:Def K mg "_law_set" jA ["_law_mask","_law_some"]) (B:Bn mg):Own P w K mg base 1 "_law_set" ["_law_mask","_law_some"] (dD K c8):=by
 delta c8
 refine gm (g:=gQ) D qK rfl rfl (by decide) fun f cdv A outer s H E hr=>?_
 delta gQ
 exact(ao (ba (ka (oJ (N:=["_law_k","_law_some","_law_mask"]) (js:=[none,some 1,some 0]) dX (by rfl) (ji (by rfl) (by exact B.range) (ah (fT (by rfl) (by exact B.len) (ah (ad 1) ar)) ar)) (fun _ _ _ _=>(by delta cO;exact(bI 0 (show(["_law_k","_law_some","_law_mask"]:List Str).Nodup by decide+kernel)))) (fun _ _ _ _=>(by delta cq;exact(oD hr.units (nn (zS (ad 2) (ad 0)) ak) ak))) (fun _ _ _ _=>(by delta ck;exact(oH (ad 1) (ad 0))))))))
abbrev f7:Stmt:=mG 26
theorem sc_law_family:FnScope ["_law_script","_law_some","_law_family_here","_law_cell","_law_rest","_law_many","_law_k","_law_one","_law_value","_law_picks"] ["_law_script","_law_some"] (ag f7):=by and_intros
theorem lP (D:Def K mg "_law_family" f7 ["_law_script","_law_some"]) (B:Bn mg) (D_law_at:Own P w K mg base 1 "_law_at" ["_law_script","_law_k"] (dD K au)) (D_law_set:Own P w K mg base 1 "_law_set" ["_law_mask","_law_some"] (dD K c8)) (D_law_stir:Own P w K mg base 1 "_law_stir" ["_law_cell","_law_k"] (dD K cb)):Own P w K mg base 2 "_law_family" ["_law_script","_law_some"] (dD K bE):=by
 delta bE
 refine gm (g:=dr) D sc_law_family rfl rfl (by decide) fun f cdv A outer s H E hr=>?_
 delta dr
 exact(aq (aS 2 sc_law_family.nd (kt jf))
 (aq (aS 3 sc_law_family.nd (aQ D_law_at (hr.mono (by decide)) (by rfl) (ah (ad 0) (ah ak ar))))
 (aq (aS 4 sc_law_family.nd (eM (ad 3) ak))
 (aq (aS 5 sc_law_family.nd (dJ (eM (ad 3) ak) ak))
 (aq (fm (rB .gt (fT (by rfl) (by exact B.len) (ah (ad 1) ar)) ak)
 (ao (aS 5 sc_law_family.nd (zJ (by rfl) (by rfl) (by exact B.min) (ah (ad 5) (ah ak ar)))))
 cf)
 (aq (h9 PassesOwn.never (by rfl) (ji (by rfl) (by exact B.range) (ah (ad 5) ar)) (by delta bP;exact(bI 6 sc_law_family.nd))
 (by delta bu;exact(aq (fm (zF (zE (rB .lt (fT (by rfl) (by exact B.len) (ah (ad 1) ar)) ak) (xa (hZ (By .lt .lt (zC (uJ ak ak)) (ad 3) (uJ ak ak))))))
 (aq (aS 7 sc_law_family.nd (aQ D_law_set (hr.mono (by decide)) (by rfl) (ah (dJ (ad 4) (u7 ak (fT (by rfl) (by exact B.len) (ah (ad 1) ar)))) (ah (ad 1) ar))))
 (ao (aS 4 sc_law_family.nd (eM (ad 4) (u7 ak (fT (by rfl) (by exact B.len) (ah (ad 1) ar)))))))
 (aq (aS 8 sc_law_family.nd (aQ D_law_stir (hr.mono (by decide)) (by rfl) (ah (aQ D_law_at (hr.mono (by decide)) (by rfl) (ah (ad 0) (ah (eY ak (ad 6)) ar))) (ah (ad 6) ar))))
 (aq (uX 9 sc_law_family.nd (N:=["_law_place","_law_some","_law_value"]) (js:=[none,some 1,some 8]) dX (by rfl) (di (zG (gK ak (gK ak (gK ak (gK ak jf)))))) (fun _ _ _ _=>(by delta eJ;exact(bI 0 (show(["_law_place","_law_some","_law_value"]:List Str).Nodup by decide+kernel)))) (fun _ _ _ _=>(by delta cY;exact(oH (ad 1) (dJ (eM (ad 2) (ad 0)) (fT (by rfl) (by exact B.len) (ah (ad 1) ar)))))))
 (ao (aS 7 sc_law_family.nd (ka (kM rfl (by rfl) (by exact B.sorted) (by rfl) (by exact B.set) (zU (ad 9) xc (xg (eY ak (dJ (eM (ad 8) ak) ak)))))))))))
 (ao (fm (zF (yA (Bq hr.units (ad 7) kq) (uP (oD hr.units (dJ (eM (aQ D_law_at (hr.mono (by decide)) (by rfl) (ah (ad 0) (ah ak ar))) ak) ak) ak))))
 (ao (j9 (jg 2 (ad 7))))
 cf)))))
 (ao (ba (ad 2)))))))))
abbrev gA:Stmt:=mG 27
theorem nS:FnScope ["_law_one","_law_other"] ["_law_one","_law_other"] (ag gA):=by and_intros
theorem nT (D:Def K mg "_law_meets" gA ["_law_one","_law_other"]) (B:Bn mg):Own P w K mg base 1 "_law_meets" ["_law_one","_law_other"] (dD K aU):=by
 delta aU
 refine gm (g:=ee) D nS rfl rfl (by decide) fun f cdv A outer s H E hr=>?_
 delta ee
 exact(ao (ba (zV (by rfl) (by rfl) (by exact B.any) (ah (fH (N:=["_law_nail","_law_other"]) (js:=[none,some 1]) dX (by rfl) (di (ad 0)) (fun _ _ _ _=>(by delta cJ;exact(bI 0 (show(["_law_nail","_law_other"]:List Str).Nodup by decide+kernel)))) (fun _ _ _ _=>(by delta b_;exact(BA (ad 0) (ad 1))))) ar))))
abbrev fe:Stmt:=mG 28
theorem sc_law_is_least:FnScope ["_law_one","_law_family_here","_law_nail"] ["_law_one","_law_family_here"] (ag fe):=by and_intros
theorem j0 (D:Def K mg "_law_is_least" fe ["_law_one","_law_family_here"]) (B:Bn mg) (D_law_meets:Own P w K mg base 1 "_law_meets" ["_law_one","_law_other"] (dD K aU)):OwnT 1 P w K mg base 2 "_law_is_least" ["_law_one","_law_family_here"] (dD K aY):=by
 delta aY
 refine BM (g:=cK) D sc_law_is_least rfl rfl (by decide) fun f cdv A outer s H E hr=>?_
 delta cK
 exact(cM (PS.tk (fm (hZ (h7 (u_ (by rfl) (by rfl) (by exact B.all) (ah (fH (N:=["_law_other","_law_one"]) (js:=[none,some 0]) dX (by rfl) (di (ad 1)) (fun _ _ _ _=>(by delta cD;exact(bI 0 (show(["_law_other","_law_one"]:List Str).Nodup by decide+kernel)))) (fun _ _ _ _=>(by delta bU;exact(aQ D_law_meets (hr.mono (by decide)) (by rfl) (ah (ad 1) (ah (ad 0) ar)))))) ar))))
 (ao (ba iK))
 cf))
 (cM (vO 2 (n:=1) PassesOwn.never (by rfl) (ad 0) sc_law_is_least.nd rfl rfl rfl (by delta aV;exact(xR (by rfl) (by rfl) (by exact B.all) (vQ (N:=["_law_other","_law_one","_law_nail"]) (js:=[none,some 0,some 2]) (nm:="_law_nail") (n:=1) (iy:=1) (io:=0) (ib:=1) (ic:=2) dX (by rfl) rfl (by first |exact Or.inl rfl |exact Or.inr (Or.inl rfl) |exact Or.inr (Or.inr rfl)) (by decide) (by decide) rfl (by first |exact Or.inl rfl |exact Or.inr rfl) rfl (by decide+kernel) rfl (fun _ _ _ _=>Ae D_law_meets (hr.mono (by decide)) (by rfl) (vM (xJ (n:=1) (ib:=1) (ic:=2) (dw 1) rfl rfl (by first |exact Or.inl rfl |exact Or.inr (Or.inl rfl) |exact Or.inr (Or.inr rfl)) (by first |exact Or.inl rfl |exact Or.inr rfl) (by decide) (by decide) (by decide) (by decide) rfl rfl rfl rfl) (cV (pX (i:=0) rfl (by first |exact Or.inl rfl |exact Or.inr (Or.inl rfl) |exact Or.inr (Or.inr rfl)) (by decide) (by decide)) eW) rfl) (by decide) rfl rfl) (by intro _;rfl)) rfl rfl (by exact fun _=>rfl))) (ao (ba iK)))
 (kW (PS.tk (ba iK)))))
abbrev la:Stmt:=mG 29
theorem sc_law:FnScope ["_law_script","_law_many","_law_some","_law_family_here","_law_found","_law_one","_law_least"] ["_law_script"] (ag la):=by and_intros
theorem Al {f0:Addr} {fd:FuncData} (D:Fun K "law" "law" la f0 fd) (B:Bn mg) (D_law_at:Own P w K mg base 1 "_law_at" ["_law_script","_law_k"] (dD K au)) (D_law_nails:Own P w K mg base 1 "_law_nails" ["_law_cell","_law_many"] (dD K bw)) (D_law_family:Own P w K mg base 2 "_law_family" ["_law_script","_law_some"] (dD K bE)) (D_meeting_sets:Own P w K mg base 4 "meeting_sets" ["family"] (dD K am)) (D_law_is_least:OwnT 1 P w K mg base 2 "_law_is_least" ["_law_one","_law_family_here"] (dD K aY)) (D_least_sets:Own P w K mg base 3 "least_sets" ["family"] (dD K aC)):FnOk P w K mg base pU 5 f0 fd ["_law_script"] (dD K ir):=by
 delta ir
 refine CV (g:=pA) D sc_law rfl rfl (by decide) fun cdv A outer s H E hr=>?_
 delta pA
 exact(xI (i:=1) sc_law.nd rfl rfl (eY ak (dJ (aQ D_law_at (hr.mono (by decide)) (by rfl) (ah (ad 0) (ah ak ar))) ak))
 (cM (PS.tk (fm (oD hr.units (dJ (eM (aQ D_law_at (hr.mono (by decide)) (by rfl) (ah (ad 0) (ah ak ar))) ak) ak) ak)
 (ao (aS 1 sc_law.nd ak))
 cf))
 (cM (PS.tk (aS 2 sc_law.nd (sX (by rfl) (by exact B.sorted) (aQ D_law_nails (hr.mono (by decide)) (by rfl) (ah (aQ D_law_at (hr.mono (by decide)) (by rfl) (ah (ad 0) (ah ak ar))) (ah (ad 1) ar))))))
 (cM (PS.tk (aS 3 sc_law.nd (aQ D_law_family (hr.mono (by decide)) (by rfl) (ah (ad 0) (ah (ad 2) ar)))))
 (cM (PS.tk (aS 4 sc_law.nd (aQ D_meeting_sets (hr.mono (by decide)) (by rfl) (ah (j8 (by rfl) (by exact B.list) (ad 3)) ar))))
 (cM (PS.tk (fm (zF (yA (hZ (h7 (ni .list (by rfl) (by exact B.isinstance) (ad 4) (by rfl) (by exact B.list) PyProof.Rows.boot_list))) (uP (hZ (h7 (u_ (by rfl) (by rfl) (by exact B.all) (ah (sS (N:=["_law_one"]) (js:=[none]) g_ (by rfl) (xj (ad 4)) (fun _ _ _ _=>(by delta gy;exact(bI 0 (show(["_law_one"]:List Str).Nodup by decide+kernel)))) (fun _ _ _ _=>(by delta fb;exact(ni .str (by rfl) (by exact B.isinstance) (ad 0) (by rfl) (by exact B.str) PyProof.Rows.boot_str)))) ar)))))))
 (ao (ba iK))
 cf))
 (cM (xG PassesOwn.never (by rfl) (di (ad 4)) (by delta fO;exact(bI 5 sc_law.nd))
 (by delta fP;exact(kW (Ag (xO (xP (xQ D_law_is_least (hr.mono (by decide)) (by rfl) (ah (ad 5) (ah (ad 3) ar)))))
 (PSs.tk (ao (ba iK))) (PSs.tk cf)))))
 (cM (PS.tk (aS 6 sc_law.nd (aQ D_least_sets (hr.mono (by decide)) (by rfl) (ah (j8 (by rfl) (by exact B.list) (ad 3)) ar))))
 (kW (PS.tk (ba (qe (uM hr.units (aQ D_meeting_sets (hr.mono (by decide)) (by rfl) (ah (j8 (by rfl) (by exact B.list) (ad 4)) ar)) (ad 6)) (uO (uM hr.units (aQ D_meeting_sets (hr.mono (by decide)) (by rfl) (ah (j8 (by rfl) (by exact B.list) (ad 6)) ar)) (ad 4)))))))))))))) rfl)
end
end Nhk34
namespace Nhk34
open PySem L2 Nh PL
theorem aK{f g:cR}{E E1:List Sl}(h:f E=some (E1,.nx)):aX f g E=g E1:=by
 unfold aX
 rw[h]
 rfl
theorem gg{c:gh}{a b:cR}{E E1:List Sl}{r:Option (List Sl×Fl)}(h:c E=some (false,E1))(k:b E1=r):cF c a b E=r:=by
 unfold cF
 rw[h,←k]
 rfl
theorem gB{c:gh}{a b:cR}{E E1:List Sl}{r:Option (List Sl×Fl)}(h:c E=some (true,E1))(k:a E1=r):cF c a b E=r:=by
 unfold cF
 rw[h,←k]
 rfl
theorem fw{tg:gb}{elt:aO}{d r:PyData}{ds rs:List PyData}{E E1:List Sl}(t:tg d E=some E1)(el:elt E1=some (.sh r,E1))(h:bZ tg aR elt ds E1=some rs):bZ tg aR elt (d::ds) E=some (r::rs):=by
 rw[bZ,t,Option.bind_some]
 simp only[aR,Z0,el,frz,h,Z1,if_true]
theorem xW(cell k:Int)(a:∀i:Int,fj i k=true)(b:∀i j:Int,fj (i % 2147483629) j=true)(c:∀i j:Int,fj (i % 2147483587) j=true):∃z:Int,cb [.int cell,.int k]=some (.sh (.int z)):=by
 have d1:gV 13=true:=by decide
 simp only[cb,eZ,Z4,Z5,Nat.reduceAdd,gT,fX,aX,aL,af,aa,bG,c9,lU,Nat.reduceSub,List.replicate,Z9,Z8,Z2,Sl.isBr,pC,cZ,fF,look,Sl.val,oA,Z0,Int.reduceLT,Z1,iL,gR,jc,dC,Z3,a,PL.settle,frz,frzAll,Nat.reduceLT,Z7,Z6,bq,cw,b,c,d1,cQ,bY,cE,ca]
 exact⟨_,rfl⟩
theorem pF(cell k:Int)(h1: -100000≤k)(h2:k≤100000):∃z:Int,cb [.int cell,.int k]=some (.sh (.int z)):=by
 refine xW cell k (fun i=>nD (by omega) (by omega)) (fun i j=>?_) (fun i j=>?_)
 ·have m0:=Int.emod_nonneg i (show(2147483629:Int)≠0 by decide)
  have m1:=Int.emod_lt_of_pos i (show(0:Int) < 2147483629 by decide)
  exact rF (by omega) (by omega)
 ·have m0:=Int.emod_nonneg i (show(2147483587:Int)≠0 by decide)
  have m1:=Int.emod_lt_of_pos i (show(0:Int) < 2147483587 by decide)
  exact rF (by omega) (by omega)
def av(a:Nat):PyData:=.str ⟨#[a]⟩
theorem gC:∀w:List Nat,bx (w.map av)=true
 |[]=>rfl
 |a::w=>by simp[bx,cE,gC w,av]
theorem vR(cell step k:Int)(m:fj k step=true):b9 [.sh (.int k),.sh (.str "abcdefghijklmnopqrstuvwxyz"),.sh (.int cell),.sh (.int step)]=some (.sh (av (97+((cell+k*step) % 26).toNat)),[.sh (.int k),.sh (.str "abcdefghijklmnopqrstuvwxyz"),.sh (.int cell),.sh (.int step)]):=by
 simp only[b9,af,aa,Z3,Z2,Sl.isBr,iL,look,Sl.val,gR,jc,dC,pC,cZ,fF,oA,Z0,sN,m,Int.reduceLT,Z1,zW,Cu,av,ca]
theorem tY (cell many step i:Int) (n:Nat) (ws:List PyData) (dd:gV 26=true) (hi:cell / 26 % 12=i) (hs:atI [PyData.int 1,.int 3,.int 5,.int 7,.int 9,.int 11,.int 15,.int 17,.int 19,.int 21,.int 23,.int 25] i=some (.int step)) (o1: -1000000≤many) (o2:many≤1000000) (hn:many.toNat=n) (e:bZ cI aR b9 (iN 0 n) [.no,.sh (.str "abcdefghijklmnopqrstuvwxyz"),.sh (.int cell),.sh (.int step)]=some ws) (fl:bx ws=true) (ll:ws.length≤1000000):bw [.int cell,.int many]=some (.ow ws):=by
 simp only[bw,eZ,Z4,Z5,Nat.reduceAdd,gT,fv,aX,aL,pC,bG,c9,lU,Nat.reduceSub,List.replicate,Z9,Z8,PL.settle,frz,frzAll,Z0,Nat.reduceLT,Z7,Z6,af,h8,uY,Nat.reduceLeDiff,Sl.isBr,aa,cw,fF,look,Sl.val,oA,cZ,sN,gR,jc,bq,bd,eG,ab,ai,Z1,ie,rz,Z2,dd,Int.reduceLT,hi,hs,Z3,cy,o1,o2,and_self,hn,e,fl,ll,cQ,bY,ca]
theorem vS:∀i,i < 12→∃v:Int,[PyData.int 1,.int 3,.int 5,.int 7,.int 9,.int 11,.int 15,.int 17,.int 19,.int 21,.int 23,.int 25][i]? =some (.int v)∧0≤v∧v≤100∧∀d:Nat,1≤d→d < 26→((d:Int)*v) % 26≠0
 | 0,_=>⟨1,rfl,by decide,by decide,by omega⟩
 | 1,_=>⟨3,rfl,by decide,by decide,by omega⟩
 | 2,_=>⟨5,rfl,by decide,by decide,by omega⟩
 | 3,_=>⟨7,rfl,by decide,by decide,by omega⟩
 | 4,_=>⟨9,rfl,by decide,by decide,by omega⟩
 | 5,_=>⟨11,rfl,by decide,by decide,by omega⟩
 | 6,_=>⟨15,rfl,by decide,by decide,by omega⟩
 | 7,_=>⟨17,rfl,by decide,by decide,by omega⟩
 | 8,_=>⟨19,rfl,by decide,by decide,by omega⟩
 | 9,_=>⟨21,rfl,by decide,by decide,by omega⟩
 | 10,_=>⟨23,rfl,by decide,by decide,by omega⟩
 | 11,_=>⟨25,rfl,by decide,by decide,by omega⟩
def ix(cell step:Int)(k:Nat):Nat:=97+((cell+(k:Int)*step) % 26).toNat
theorem qM{cell step:Int}(hs:∀d:Nat,1≤d→d < 26→((d:Int)*step) % 26≠0){j k:Nat}(h:j < k)(hk:k < 26):ix cell step j≠ix cell step k:=by
 intro e
 unfold ix at e
 have m0:=Int.emod_nonneg (cell+(k:Int)*step) (show(26:Int)≠0 by decide)
 have n0:=Int.emod_nonneg (cell+(j:Int)*step) (show(26:Int)≠0 by decide)
 have e2:(cell+(k:Int)*step) % 26=(cell+(j:Int)*step) % 26:=by omega
 have e3:=Int.emod_eq_emod_iff_emod_sub_eq_zero.mp e2
 apply hs (k - j) (by omega) (by omega)
 rw[←e3]
 congr 1
 rw[show((k - j:Nat):Int)=(k:Int) - j by omega,Int.sub_mul]
 omega
theorem mH(cell step:Int)(h1:0≤step)(h2:step≤100):∀(n lo:Nat) (x:Sl),bZ cI aR b9 (iN lo n) [x,.sh (.str "abcdefghijklmnopqrstuvwxyz"),.sh (.int cell),.sh (.int step)]=some (((List.range' lo n).map (ix cell step)).map av)
 | 0,lo,x=>rfl
 |n+1,lo,x=>by
  have e:=mH cell step h1 h2 n (lo+1) (.sh (.int lo))
  have s:=vR cell step lo (nD (by omega) (by omega))
  have t:cI (.int lo) [x,.sh (.str "abcdefghijklmnopqrstuvwxyz"),.sh (.int cell),.sh (.int step)]=some [.sh (.int lo),.sh (.str "abcdefghijklmnopqrstuvwxyz"),.sh (.int cell),.sh (.int step)]:=rfl
  rw[show((lo+1:Nat):Int)=(lo:Int)+1 by omega]at e
  rw[jj,List.range'_succ,c9,c9]
  exact fw t s e
def az(a:Nat):Prop:=97≤a∧a < 123
theorem iz{a:Nat}(h:az a):a∈List.range' 97 26:=List.mem_range'_1.mpr ⟨h.1,h.2⟩
theorem tZ(cell step:Int)(k:Nat):az (ix cell step k):=by
 unfold ix az
 have m0:=Int.emod_nonneg (cell+(k:Int)*step) (show(26:Int)≠0 by decide)
 have m1:=Int.emod_lt_of_pos (cell+(k:Int)*step) (show(0:Int) < 26 by decide)
 generalize (cell+(k:Int)*step) % 26=z at m0 m1
 omega
theorem aE{c:List PyData→Option Sl}{g:oz}{E E1:List Sl}{ss:List Sl}{ds:List PyData}{r:Sl}(h:g E=some (ss,E1))(hl:cy E1 ss=some ds)(hc:c ds=some r):aj c g E=some (r,E1):=by
 unfold aj
 rw[h,Option.bind_some]
 show(cy E1 ss).bind _=_
 rw[hl,Option.bind_some,hc]
 rfl
theorem vT{x:Int}{f:aO}{E:List Sl}{y:Int}{g:aO}(hf:g E=some (.sh (.int x),E))(h:f E=some (.sh (.int y),E))(ok:fj x y=true):af iL false g f E=some (.sh (.int (x*y)),E):=by
 simp only[af,iL,hf,h,Z0,look,Sl.val,ok,ca]
theorem iY{x:Int}{f:aO}{E:List Sl}{y:Int}{g:aO}(hf:g E=some (.sh (.int x),E))(h:f E=some (.sh (.int y),E)):af dC false g f E=some (.sh (.int (x+y)),E):=by
 simp only[af,dC,hf,h,Z0,look,Sl.val,ca]
theorem dQ{f:aO}{E E1:List Sl}{d:PyData}{i:Nat}(h:f E=some (.sh d,E1))(hi:i < E1.length):aL i f E=some (E1.set i (.sh d),.nx):=by
 unfold aL
 rw[h]
 simp only[Z0,PL.settle,hi,if_true]
theorem BO{a b:gh}{E E1:List Sl}{r:Option (Bool×List Sl)}(h:a E=some (false,E1))(k:b E1=r):nh a b E=r:=by
 unfold nh
 rw[h,Option.bind_some]
 exact k
theorem fQ(ns:List Int)(k:Nat):au [.list (ns.map .int),.int k]=some (.sh (.int (ns.getD k 0))):=by
 simp only[au,eZ,Z4,Z5,Nat.reduceAdd,gT,iW,aX,cF,eL,af,aa,bG,c9,lU,Nat.sub_self,List.replicate,Z9,Z8,Z3,Z2,Sl.isBr,bJ,ab,ai,Z1,eD,fF,look,Sl.val,dE,Cm.i,Cm.s,Z0,cy,bq,sN,gR,jc,bK,pC,cQ,bY,ca]
 by_cases h:k < ns.length
 ·simp[h,gq,cE,cQ,bY]
 ·simp[h,List.getElem?_eq_none (Nat.le_of_not_lt h),cE,cQ,bY]
theorem rX(w:List Nat)(a:Nat):(Builtin.Str.occurrences ⟨w.toArray⟩ ⟨#[a]⟩ 0 (⟨w.toArray⟩:Str).length 1).isEmpty= !decide (a∈w):=by
 have h:=PySem.StrLaws.found_one ⟨w.toArray⟩ a
 rw[List.toList_toArray]at h
 rw[←h,Bool.not_not]
def df(a:Nat):Str:=⟨#[a]⟩
theorem vU{a b:Nat}(h:df a=df b):a=b:=by
 simp[df]at h;exact h
theorem xX{a b:Nat}(h:a≤b):nY (df a) (df b)=true:=by
 have:[a]≤[b]:=by
  rcases Nat.lt_or_ge a b with k |k
  ·exact List.le_of_lt (List.Lex.rel k)
  ·rw[Nat.le_antisymm h k];exact List.le_refl _
 exact decide_eq_true this
theorem xY(ks:List Str)(x y:Str):y∈wn ks x↔y∈ks∨y=x:=by
 unfold wn
 split
 ·rename_i h
  exact⟨.inl,fun z=>z.elim id fun e=>e▸h⟩
 ·simp
theorem t7{ks:List Str}(h:ks.Nodup)(x:Str):(wn ks x).Nodup:=by
 unfold wn
 split
 ·exact h
 ·rename_i k
  rw[Zba]
  refine⟨h,by simp,fun a ha b hb=>?_⟩
  rw[Zaf.mp hb]
  exact fun e=>k (e▸ha)
theorem nU:∀(ss ks:List Str),ks.Nodup→(ss.foldl wn ks).Nodup∧∀y,y∈ss.foldl wn ks↔y∈ks∨y∈ss
 |[],ks,h=>⟨h,fun y=>by simp⟩
 |s::ss,ks,h=>by
  obtain⟨a,b⟩:=nU ss (wn ks s) (t7 h s)
  refine⟨a,fun y=>?_⟩
  rw[List.foldl_cons,b y,xY,Zap,or_assoc]
theorem t8(ss:List Str):(gv ss).Nodup:=(nU ss [] List.nodup_nil).1
theorem xZ(ss:List Str)(y:Str):y∈gv ss↔y∈ss:=by
 rw[gv,(nU ss [] List.nodup_nil).2 y];simp
def aZ(w:List Nat):List Nat:=(List.range' 97 26).filter fun a=>decide (a∈w)
theorem inOrd_mem{w:List Nat}{a:Nat}:a∈aZ w↔a∈List.range' 97 26∧a∈w:=by simp[aZ]
theorem f8{α:Type}[DecidableEq α]:∀{l m:List α},l.Nodup→m.Nodup→(∀a,a∈l↔a∈m)→l.Perm m
 |[],m,_,_,h=>by
  have:m=[]:=by
   cases m with
   |nil=>rfl
   |cons b m=>exact absurd ((h b).mpr (by simp)) (by simp)
  rw[this]
 |a::l,m,hl,hm,h=>by
  have ha:a∈m:=(h a).mp (by simp)
  have hl':=List.nodup_cons.mp hl
  have p:=List.perm_cons_erase ha
  refine((f8 hl'.2 (hm.erase a) fun b=>?_).cons a).trans p.symm
  rw[List.Nodup.mem_erase_iff hm,←h b,Zap]
  exact⟨fun k=>⟨fun e=>hl'.1 (e▸k),.inr k⟩,fun k=>k.2.resolve_left k.1⟩
theorem iA{w:List Nat}(h:w.Nodup):(w.map df).Nodup:=by
 rw[List.Nodup,List.pairwise_map]
 exact h.imp fun k e=>k (vU e)
theorem gD(w:List Nat):(aZ w).Nodup:=List.Nodup.sublist List.filter_sublist (List.nodup_range' ..)
theorem iZ(w:List Nat):((aZ w).map df).Pairwise fun a b=>nY a b=true:=by
 rw[List.pairwise_map]
 have h:(List.range' 97 26).Pairwise (· < ·):=List.pairwise_lt_range'
 exact(h.sublist List.filter_sublist).imp fun k=>xX (g7 k)
theorem lg{w:List Nat}(hw:∀a∈w,a∈List.range' 97 26):gc (gv (w.map df))=(aZ w).map df:=by
 refine(List.Perm.eq_of_pairwise (fun _ _ _ _ h k=>kD h k) (iZ w) (List.pairwise_mergeSort gM jl _) ?_).symm
 refine List.Perm.trans ?_ (List.mergeSort_perm _ nY).symm
 refine f8 (iA (gD w)) (t8 _) fun y=>?_
 rw[xZ,List.mem_map,List.mem_map]
 constructor
 ·rintro⟨a,ha,rfl⟩
  exact⟨a,(inOrd_mem.mp ha).2,rfl⟩
 ·rintro⟨a,ha,rfl⟩
  exact⟨a,inOrd_mem.mpr ⟨hw a ha,ha⟩,rfl⟩
theorem rY{w:List Nat}(hw:∀a∈w,a∈List.range' 97 26):(gv (w.map df)).length≤26:=by
 rw[←jm,lg hw,dv]
 refine gG (List.length_filter_le _ _) (by simp)
theorem x3{a:Nat}(h:az a):decide ([a] < (Str.ofString "a").cps.toList)=false:=by
 have e:(Str.ofString "a").cps.toList=[97]:=by decide+kernel
 rw[e]
 refine decide_eq_false fun k=>?_
 have:a < 97:=by
  cases k with
  |rel k=>exact k
  |cons k=>cases k
 exact absurd this (Nat.not_lt.mpr h.1)
theorem x4{a:Nat}(h:az a):decide ((Str.ofString "z").cps.toList < [a])=false:=by
 have e:(Str.ofString "z").cps.toList=[122]:=by decide+kernel
 rw[e]
 refine decide_eq_false fun k=>?_
 have:122 < a:=by
  cases k with
  |rel k=>exact k
  |cons k=>cases k
 exact absurd this (Nat.not_lt.mpr (Nat.le_of_lt_succ h.2))
theorem qN{a:Nat}(h:az a):dO [.str ⟨#[a]⟩]=some (.sh (.bool true)):=by
 have l:(⟨#[a]⟩:Str).length=1:=rfl
 have t:(#[a]:Array Nat).toList=[a]:=rfl
 have lo:=x3 h
 have hi:=x4 h
 simp only[dO,eZ,Z4,Z5,gT,gO,bq,kr,lD,aa,bG,c9,lU,Nat.sub_self,List.replicate,Z9,Z8,Z2,look,Sl.val,kz,Ty.is,yC,Z1,Z0,af,bJ,ab,Sl.isBr,ai,eD,pC,jU,fF,eC,Bool.or_false,dE,Cm.i,Cm.s,cy,l,Nat.reduceLeDiff,Int.cast_ofNat_Int,rG,hi,lo,cQ,bY,cE,ca]
theorem mI(x0:Sl):∀(w:List Nat) (a:Sl),(∀y∈w,az y)→∃a',bL d0 d_ (w.map av) [x0,a]=some ([x0,a'],.nx)
 |[],a,_=>⟨a,rfl⟩
 |y::w,a,h=>by
  have n:=qN (h y (f_ ..))
  have e:(d0 (av y) [x0,a]).bind d_=some ([x0,.sh (av y)],.nx):=by
   simp only[d0,aF,Z4,Z5,Nat.reduceAdd,Nat.reduceLT,av,Z7,Z6,d_,Z0,cF,bS,dW,aj,ab,aa,Z3,Z2,Sl.isBr,ai,Z1,cy,look,Sl.val,n,gl,bK,ca]
  obtain⟨a',ih⟩:=mI x0 w (.sh (av y)) fun z hz=>h z (fD _ hz)
  refine⟨a',?_⟩
  rw[c9,bL,e]
  exact ih
theorem nV(w:List Nat):eH ⟨w.toArray⟩=w.map av:=by simp[eH,av]
theorem BP(w:List Nat):iP ⟨w.toArray⟩=w.map df:=by simp[iP,df]
theorem lh:∀(w:List Nat),gW (w.map av)=some (w.map df)
 |[]=>rfl
 |a::w=>by simp only[c9,av,gW];rw[lh w];rfl
theorem lj(w:List Nat):eI ((w.map df).map PyData.str)=some (w.map df):=by
 induction w with
 |nil=>rfl
 |cons a w ih=>simp only[c9,eI,ih,Z1]
theorem jQ:∀(w:List Nat),eI (w.map av)=some (w.map df)
 |[]=>rfl
 |a::w=>by simp only[c9,av,eI];rw[jQ w];rfl
theorem nW(w:List Nat):((w.map df).map (·.length)).sum+(w.map df).length*(Str.ofString "").length=w.length:=by
 have:(Str.ofString "").length=0:=rfl
 rw[this,Nat.mul_zero,Nat.add_zero]
 induction w with
 |nil=>rfl
 |cons a w ih=>simp only[c9,List.sum_cons,ih,Z4];show 1+_=_;omega
theorem lq:∀(w:List Nat),Txt.join "" (w.map df)=⟨w.toArray⟩:=by
 intro w
 show Builtin.Str.glued "" _=_
 rw[StrLaws.glued_eq_join]
 induction w with
 |nil=>rfl
 |cons a w ih=>
  cases w with
  |nil=>rfl
  |cons b w=>
   have e:Str.join "" ((a::b::w).map df)=(⟨#[a]⟩:Str)++""++Str.join "" ((b::w).map df):=rfl
   rw[e,ih]
   show(⟨(#[a]++(Str.ofString "").cps)++(b::w).toArray⟩:Str)=_
   rw[show(Str.ofString "").cps=#[] by decide+kernel]
   simp
theorem mJ(w:List Nat):(aZ w).length≤1000000:=gG (List.length_filter_le _ _) (by simp)
theorem mK{w:List Nat}(h:∀y∈w,az y)(hl:w.length≤3900):cN [.str ⟨w.toArray⟩]=some (.sh (.str ⟨(aZ w).toArray⟩)):=by
 obtain⟨a,e⟩:=mI (.sh (.str ⟨w.toArray⟩)) w .no h
 have d:=lg fun y hy=>iz (h y hy)
 have d2:(w.map df).length < 4000∧(gv (w.map df)).length < 64:=⟨by rw[dv];omega,sm (rY fun y hy=>iz (h y hy)) (by decide)⟩
 have l:=nW (aZ w)
 have l2:=mJ w
 simp only[cN,eZ,Z4,Z5,gT,iV,aX,cF,bS,dW,lD,aa,bG,c9,lU,Nat.reduceSub,List.replicate,Z9,Z8,Z2,look,Sl.val,kz,Ty.is,yC,Z1,Z0,gl,bK,de,bH,frz,bq,fJ,dY,ma,nV,e,BP,d2,and_self,d,lj,l,l2,lq,cQ,bY,cE,ca]
theorem t9:(Str.ofString "abcdefghijklmnopqrstuvwxyz")=(⟨(List.range' 97 26).toArray⟩:Str):=by decide+kernel
theorem Am(w:List Nat)(a:Nat):AI (.str ⟨#[a]⟩) (.str ⟨w.toArray⟩)=some (decide (a∈w)):=by
 show some (!(Builtin.Str.occurrences ⟨w.toArray⟩ ⟨#[a]⟩ 0 (⟨w.toArray⟩:Str).length 1).isEmpty)=_
 rw[rX,Bool.not_not]
theorem BQ{E:List Sl}{f g:aO}{d1 d2:PyData}{b:Bool}(hf:f E=some (.sh d1,E))(hg:g E=some (.sh d2,E))(hd:AI d1 d2=some b):eL (af (yD false) false f g) E=some (b,E):=by
 simp only[eL,af,yD,fF,hf,hg,hd,Z0,look,Sl.val,Z1,ca]
theorem x6(w:List Nat)(n:Nat)(c:Nat)(hc:c=97+n)(p:Int)(hp:p=2 ^ n)(a:Sl):(dl (.str ⟨#[c]⟩) [.sh (.str ⟨w.toArray⟩),.sh (.int (NH.cg w n)),.sh (.int p),a]).bind dm=some ([.sh (.str ⟨w.toArray⟩),.sh (.int (NH.cg w (n+1))),.sh (.int (p*2)),.sh (.str ⟨#[c]⟩)],.nx):=by
 have i1:=Am w c
 have ok:fj p 2=true:=nD (by decide) (by decide)
 have b:(NH.cg w (n+1):Int)=if c∈w then (NH.cg w n:Int)+p else (NH.cg w n:Int):=by
  rw[NH.cg,hc,hp]
  split
  ·push_cast;rfl
  ·simp
 generalize (NH.cg w (n+1):Int)=B1 at b ⊢
 generalize (NH.cg w n:Int)=B0 at b ⊢
 have tg:dl (.str ⟨#[c]⟩) [.sh (.str ⟨w.toArray⟩),.sh (.int B0),.sh (.int p),a]=some [.sh (.str ⟨w.toArray⟩),.sh (.int B0),.sh (.int p),.sh (.str ⟨#[c]⟩)]:=rfl
 have t1:eL (af (yD false) false (aa 3) (aa 0)) [.sh (.str ⟨w.toArray⟩),.sh (.int B0),.sh (.int p),.sh (.str ⟨#[c]⟩)]=some (decide (c∈w),[.sh (.str ⟨w.toArray⟩),.sh (.int B0),.sh (.int p),.sh (.str ⟨#[c]⟩)]):=BQ rfl rfl i1
 have s2:∀x:Int,aL 2 (af iL false (aa 2) (pC (.int 2))) [.sh (.str ⟨w.toArray⟩),.sh (.int x),.sh (.int p),.sh (.str ⟨#[c]⟩)]=some ([.sh (.str ⟨w.toArray⟩),.sh (.int x),.sh (.int (p*2)),.sh (.str ⟨#[c]⟩)],.nx):=fun x=>dQ (vT (g:=aa 2) (f:=pC (.int 2)) rfl rfl ok) (show 2 < 4 by decide)
 rw[tg,Option.bind_some,dm]
 by_cases h:c∈w
 ·rw[if_pos h]at b
  rw[decide_eq_true h]at t1
  have s1:aL 1 (af dC false (aa 1) (aa 2)) [.sh (.str ⟨w.toArray⟩),.sh (.int B0),.sh (.int p),.sh (.str ⟨#[c]⟩)]=some ([.sh (.str ⟨w.toArray⟩),.sh (.int B1),.sh (.int p),.sh (.str ⟨#[c]⟩)],.nx):=by
   rw[b]
   exact dQ (iY (g:=aa 1) (f:=aa 2) rfl rfl) (show 1 < 4 by decide)
  rw[aK (gB t1 s1)]
  exact s2 B1
 ·rw[if_neg h]at b
  rw[decide_eq_false h]at t1
  rw[aK (gg (b:=bK) t1 rfl),b]
  exact s2 B0
theorem rZ(w:List Nat):∀(k n:Nat) (a:Sl),n+k=26→∃a' b',bL dl dm ((List.range' (97+n) k).map fun c=>.str ⟨#[c]⟩) [.sh (.str ⟨w.toArray⟩),.sh (.int (NH.cg w n)),.sh (.int (2 ^ n)),a]=some ([.sh (.str ⟨w.toArray⟩),.sh (.int (NH.a8 w)),b',a'],.nx)
 | 0,n,a,h=>⟨a,.sh (.int (2 ^ n)),by rw[show n=26 by omega];rfl⟩
 |k+1,n,a,h=>by
  have s:=x6 w n (97+n) rfl (2 ^ n) rfl a
  rw[(Int.pow_succ 2 n).symm]at s
  obtain⟨a',b',e⟩:=rZ w k (n+1) (.sh (.str ⟨#[97+n]⟩)) (by omega)
  refine⟨a',b',?_⟩
  rw[List.range'_succ,c9,bL,s]
  exact e
theorem iB(w:List Nat):a_ [.str ⟨w.toArray⟩]=some (.sh (.int (NH.a8 w))):=by
 obtain⟨a,b,e⟩:=rZ w 26 0 .no rfl
 have z0:((NH.cg w 0:Nat):Int)=0:=rfl
 have z1:(2:Int) ^ 0=1:=rfl
 rw[z0,z1,Nat.add_zero]at e
 have sg:eH (⟨(List.range' 97 26).toArray⟩:Str)=(List.range' 97 26).map fun c=>.str ⟨#[c]⟩:=by simp[eH]
 simp only[a_,eZ,Z4,Z5,gT,gP,aX,aL,pC,bG,c9,lU,Nat.reduceSub,List.replicate,Z9,Z8,PL.settle,frz,frzAll,Z0,Nat.reduceAdd,Nat.reduceLT,Z7,Z6,de,bH,t9,sg,bq,aa,e,Z3,Z2,cQ,bY,cE,ca]
theorem qO(a b:Nat):Builtin.bitAnd (a:Int) (b:Int)=((a &&& b:Nat):Int):=by
 simp[Builtin.bitAnd]
theorem qP{E:List Sl}{f g:aO}{x y:Nat}(hf:f E=some (.sh (.int x),E))(hg:g E=some (.sh (.int y),E)):af oP false f g E=some (.sh (.int ((x &&& y:Nat):Int)),E):=by
 simp only[af,oP,fF,oA,hf,hg,Z0,look,Sl.val,Z1,qO,ca]
theorem pG{E:List Sl}{f g:aO}{x y:Int}(hf:f E=some (.sh (.int x),E))(hg:g E=some (.sh (.int y),E)):eL (af jU false f g) E=some (decide (x=y),E):=by
 simp only[eL,af,jU,fF,hf,hg,Z0,look,Sl.val,Z1,rG,ca]
def i5(n:Nat):PyData:=.int n
theorem r8(x1:Sl)(b:Nat):∀(ps:List Nat) (a:Sl),∃E,bL aW aM (ps.map i5) [.sh (.int b),x1,a]=some (E,if ps.any (fun p=>decide (p &&& b=p))then .rt (.sh (.bool true))else .nx)
 |[],a=>⟨_,rfl⟩
 |p::ps,a=>by
  have t1:eL (af jU false (af oP false (aa 2) (aa 0)) (aa 2)) [.sh (.int b),x1,.sh (.int p)]=some (decide (((p &&& b:Nat):Int)=(p:Int)),[.sh (.int b),x1,.sh (.int p)]):=pG (qP (f:=aa 2) (g:=aa 0) (x:=p) (y:=b) rfl rfl) rfl
  have tg:aW (i5 p) [.sh (.int b),x1,a]=some [.sh (.int b),x1,.sh (.int p)]:=rfl
  by_cases h:p &&& b=p
  ·rw[decide_eq_true (by rw[h])]at t1
   refine⟨[.sh (.int b),x1,.sh (.int p)],?_⟩
   have st:(aW (i5 p) [.sh (.int b),x1,a]).bind aM=some ([.sh (.int b),x1,.sh (.int p)],.rt (.sh (.bool true))):=by
    rw[tg,Option.bind_some,aM]
    exact gB t1 rfl
   rw[c9,bL,st,List.any_cons,decide_eq_true h]
   rfl
  ·rw[decide_eq_false (by omega)]at t1
   obtain⟨E,ih⟩:=r8 x1 b ps (.sh (.int p))
   refine⟨E,?_⟩
   have st:(aW (i5 p) [.sh (.int b),x1,a]).bind aM=some ([.sh (.int b),x1,.sh (.int p)],.nx):=by
    rw[tg,Option.bind_some,aM]
    exact gg t1 rfl
   rw[c9,bL,st,List.any_cons,decide_eq_false h,Bool.false_or]
   exact ih
theorem x8(b:Nat)(ps:List Nat):aB [.int b,.list (ps.map i5)]=some (.sh (.bool (ps.any fun p=>decide (p &&& b=p)))):=by
 obtain⟨E,e⟩:=r8 (.sh (.list (ps.map i5))) b ps .no
 cases h:ps.any (fun p=>decide (p &&& b=p))with
 |true=>
  rw[h]at e
  simp only[if_true]at e
  simp only[aB,eZ,Z4,Z5,Nat.reduceAdd,gT,b8,aX,de,bH,aa,bG,c9,lU,Nat.reduceSub,List.replicate,Z9,Z8,Z3,Z2,frz,Z0,e,bq,pC,cQ,bY,cE,ca]
 |false=>
  rw[h]at e
  simp only[ca]at e
  simp only[aB,eZ,Z4,Z5,Nat.reduceAdd,gT,b8,aX,de,bH,aa,bG,c9,lU,Nat.reduceSub,List.replicate,Z9,Z8,Z3,Z2,frz,Z0,e,bq,pC,cQ,bY,cE,ca]
theorem pH(x1:Sl)(b:Nat):∀(ps:List Nat) (a:Sl),∃E,bL bM bt (ps.map i5) [.sh (.int b),x1,a]=some (E,if ps.all (fun p=> !decide (p &&& b=0))then .nx else .rt (.sh (.bool false)))
 |[],a=>⟨_,rfl⟩
 |p::ps,a=>by
  have t1:eL (af jU false (af oP false (aa 2) (aa 0)) (pC (.int 0))) [.sh (.int b),x1,.sh (.int p)]=some (decide (((p &&& b:Nat):Int)=0),[.sh (.int b),x1,.sh (.int p)]):=pG (qP (f:=aa 2) (g:=aa 0) (x:=p) (y:=b) rfl rfl) rfl
  have tg:bM (i5 p) [.sh (.int b),x1,a]=some [.sh (.int b),x1,.sh (.int p)]:=rfl
  by_cases h:p &&& b=0
  ·rw[decide_eq_true (by rw[h];rfl)]at t1
   refine⟨[.sh (.int b),x1,.sh (.int p)],?_⟩
   have st:(bM (i5 p) [.sh (.int b),x1,a]).bind bt=some ([.sh (.int b),x1,.sh (.int p)],.rt (.sh (.bool false))):=by
    rw[tg,Option.bind_some,bt]
    exact gB t1 rfl
   rw[c9,bL,st,List.all_cons,decide_eq_true h]
   rfl
  ·rw[decide_eq_false (by omega)]at t1
   obtain⟨E,ih⟩:=pH x1 b ps (.sh (.int p))
   refine⟨E,?_⟩
   have st:(bM (i5 p) [.sh (.int b),x1,a]).bind bt=some ([.sh (.int b),x1,.sh (.int p)],.nx):=by
    rw[tg,Option.bind_some,bt]
    exact gg t1 rfl
   rw[c9,bL,st,List.all_cons,decide_eq_false h,Bool.not_false,Bool.true_and]
   exact ih
theorem vV(b:Nat)(ps:List Nat):bA [.int b,.list (ps.map i5)]=some (.sh (.bool (ps.all fun p=> !decide (p &&& b=0)))):=by
 obtain⟨E,e⟩:=pH (.sh (.list (ps.map i5))) b ps .no
 cases h:ps.all (fun p=> !decide (p &&& b=0))with
 |true=>
  rw[h]at e
  simp only[if_true]at e
  simp only[bA,eZ,Z4,Z5,Nat.reduceAdd,gT,dq,aX,de,bH,aa,bG,c9,lU,Nat.reduceSub,List.replicate,Z9,Z8,Z3,Z2,frz,Z0,e,bq,pC,cQ,bY,cE,ca]
 |false=>
  rw[h]at e
  simp only[ca]at e
  simp only[bA,eZ,Z4,Z5,Nat.reduceAdd,gT,dq,aX,de,bH,aa,bG,c9,lU,Nat.reduceSub,List.replicate,Z9,Z8,Z3,Z2,frz,Z0,e,bq,pC,cQ,bY,cE,ca]
def ae(w:List Nat):PyData:=.str ⟨w.toArray⟩
def x9(w:List Nat):List (List Nat):=w.foldl (fun acc a=>acc++acc.map (· ++[a])) [[]]
theorem du(l:List (List Nat)):bx (l.map ae)=true:=by
 induction l with
 |nil=>rfl
 |cons a l ih=>show(cE (ae a)&&bx (l.map ae))=true;rw[ih];rfl
theorem An(u v:List Nat):(⟨u.toArray⟩:Str)++(⟨v.toArray⟩:Str)=⟨(u++v).toArray⟩:=by
 show(⟨u.toArray++v.toArray⟩:Str)=_
 simp
theorem jB(w:List Nat):(⟨w.toArray⟩:Str).length=w.length:=by show w.toArray.size=_;simp
theorem vW(a:Nat):∀(l:List (List Nat)) (x0:Sl),(∀u∈l,u.length≤1000)→bZ dS aR cS (l.map ae) [x0,.sh (.str ⟨#[a]⟩)]=some ((l.map (· ++[a])).map ae)
 |[],x0,_=>rfl
 |u::l,x0,h=>by
  have hu:=h u (f_ ..)
  have ap:(⟨u.toArray⟩:Str)++(⟨#[a]⟩:Str)=⟨(u++[a]).toArray⟩:=An u [a]
  have l1:(⟨#[a]⟩:Str).length=1:=rfl
  have lb:u.length+1≤1000000:=by omega
  have e:dS (ae u) [x0,.sh (.str ⟨#[a]⟩)]=some [.sh (.str ⟨u.toArray⟩),.sh (.str ⟨#[a]⟩)]:=rfl
  have e2:cS [.sh (.str ⟨u.toArray⟩),.sh (.str ⟨#[a]⟩)]=some (.sh (.str ⟨(u++[a]).toArray⟩),[.sh (.str ⟨u.toArray⟩),.sh (.str ⟨#[a]⟩)]):=by
   simp only[cS,af,aa,Z2,Sl.isBr,dC,look,Sl.val,gR,jc,Z0,Z3,jB,l1,lb,ap,ca]
  rw[c9,bZ,e,Option.bind_some]
  simp only[aR,frz,Z0,e2,vW a l _ fun v hv=>h v (fD _ hv),Z1,if_true,c9]
  rfl
theorem vX(x0:Sl):∀(w:List Nat) (l:List (List Nat)) (n:Nat) (a:Sl),l.length*2 ^ w.length≤100000→n+w.length≤1000→(∀u∈l,u.length≤n)→∃a',bL cA cB (w.map fun c=>.str ⟨#[c]⟩) [x0,.ow (l.map ae),a]=some ([x0,.ow ((w.foldl (fun acc a=>acc++acc.map (· ++[a])) l).map ae),a'],.nx)
 |[],l,n,a,_,_,_=>⟨a,rfl⟩
 |c::w,l,n,a,hb,hn,hl=>by
  have p1:1≤2 ^ w.length:=Nat.one_le_two_pow
  have lle:l.length≤100000:=by
   rw[List.length_cons,Nat.pow_succ]at hb
   have:l.length*1≤l.length*(2 ^ w.length*2):=Nat.mul_le_mul_left _ (by omega)
   omega
  have k:=vW c l .no fun u hu=>by have:=hl u hu;simp at hn;omega
  have lb:(l.map (· ++[c])).length≤1000000:=by simp;omega
  have lb2:l.length+(l.map (· ++[c])).length≤1000000:=by simp;omega
  have fl:=du (l.map (· ++[c]))
  have lb3:l.length≤1000000:=by omega
  have lb4:l.length+l.length≤1000000:=by omega
  have st:(cA (.str ⟨#[c]⟩) [x0,.ow (l.map ae),a]).bind cB=some ([x0,.ow ((l++l.map (· ++[c])).map ae),.sh (.str ⟨#[c]⟩)],.nx):=by
   simp only[cA,aF,Z4,Z5,Nat.reduceAdd,Nat.reduceLT,Z7,Z6,cB,Z0,aL,af,aa,Z3,Z2,Sl.isBr,bd,bH,frz,ie,c9,rz,lU,dC,look,Sl.val,gR,jc,k,fl,dv,lb3,Option.any_some,lb4,←List.map_append,PL.settle,frzAll,ca]
  obtain⟨a',e⟩:=vX x0 w (l++l.map (· ++[c])) (n+1) (.sh (.str ⟨#[c]⟩)) (by
   rw[List.length_append,dv,←Nat.two_mul,Nat.mul_assoc]
   rw[List.length_cons,Nat.pow_succ]at hb
   have e1:2*(l.length*2 ^ w.length)=l.length*(2 ^ w.length*2):=by rw[Nat.mul_comm 2,Nat.mul_assoc]
   omega) (by simp at hn;omega) (fun u hu=>by
    rcases Zao.mp hu with q |q
    ·have:=hl u q;omega
    ·obtain⟨v,hv,rfl⟩:=List.mem_map.mp q
     have:=hl v hv
     simp;omega)
  refine⟨a',?_⟩
  rw[c9,bL,st]
  exact e
theorem Ao(w:List Nat)(hw:w.length≤10):bD [.str ⟨w.toArray⟩]=some (.ow ((x9 w).map ae)):=by
 have p:2 ^ w.length≤2 ^ 10:=Nat.pow_le_pow_right (by decide) hw
 obtain⟨a,e⟩:=vX (.sh (.str ⟨w.toArray⟩)) w [[]] 0 .no (by simp;omega) (by omega) (fun u hu=>by rw[Zaf.mp hu];simp)
 have e0:[PyData.str ""]=([[]]:List (List Nat)).map ae:=rfl
 have sg:eH (⟨w.toArray⟩:Str)=w.map fun c=>.str ⟨#[c]⟩:=by simp[eH]
 have fl:=du (x9 w)
 unfold x9 at fl ⊢
 have s1:aL 1 (h8 (fG (pC (.str "")) gS)) [.sh (.str ⟨w.toArray⟩),.no,.no]=some ([.sh (.str ⟨w.toArray⟩),.ow (([[]]:List (List Nat)).map ae),.no],.nx):=by
  rw[←e0]
  simp only[aL,h8,fG,pC,frz,gS,Z1,Z0,Z4,Z5,Nat.reduceLeDiff,PL.settle,frzAll,Nat.reduceAdd,Nat.reduceLT,Z7,Z6,ca]
 have it:∀y:Sl,bH (aa 0) [.sh (.str ⟨w.toArray⟩),y,.no]=some (w.map fun c=>.str ⟨#[c]⟩,[.sh (.str ⟨w.toArray⟩),y,.no]):=fun y=>by
  simp only[bH,aa,Z2,frz,Z0,sg]
 have fo:de (bH (aa 0)) cA cB [.sh (.str ⟨w.toArray⟩),.ow (([[]]:List (List Nat)).map ae),.no]=some ([.sh (.str ⟨w.toArray⟩),.ow ((w.foldl (fun acc a=>acc++acc.map (· ++[a])) [[]]).map ae),a],.nx):=by
  unfold de
  rw[it,Option.bind_some]
  exact e
 have g:bD [.str ⟨w.toArray⟩]=(e_ [.sh (.str ⟨w.toArray⟩),.no,.no]).bind fun a=>match a.2 with |.rt r=>cQ r |.nx=>some (.sh .none) |_=>none:=rfl
 rw[g,e_,aK s1,aK fo]
 simp only[bq,aa,Z3,Z2,Z0,Z7,Z6,Z1,cQ,bY,fl,if_true]
open NhFam in
theorem r_(w:List Nat):NhSG.fW ⟨w.toArray⟩=key w:=by
 show(((⟨w.toArray⟩:Str).length:Int),w.toArray.toList)=((w.length:Int),w)
 rw[jB]
theorem pI:∀F:List (List Nat),gW (F.map ae)=some (F.map fun w=>(⟨w.toArray⟩:Str))
 |[]=>rfl
 |w::F=>by
  show(gW (F.map ae)).map ((⟨w.toArray⟩:Str):: ·)=_
  rw[pI F]
  rfl
theorem vY(F:List (List Nat)):NhSG.gY (F.map fun w=>(⟨w.toArray⟩:Str))=(NhFam.ft F).map fun w=>(⟨w.toArray⟩:Str):=by
 refine(NhSG.mz ((List.mergeSort_perm F _).map _) ?_).symm
 rw[List.pairwise_map]
 exact(NhFam.mF F).imp fun {a b} h=>by
  unfold NhSG.nZ
  rw[r_,r_]
  have:NhSG.eN (NhFam.key b) (NhFam.key a)=false:=by simpa[NhFam.gU]using h
  rw[this];rfl
theorem x_(F:List (List Nat)):(F.map fun w=>(⟨w.toArray⟩:Str)).map PyData.str=F.map ae:=by rw[List.map_map];rfl
def Fit(F:List (List Nat)):Prop:=F.length < 1100∧∀w∈F,NH.lG w∧w.length≤1000
theorem Fit.chk{F:List (List Nat)}(h:Fit F):(decide ((F.map fun w=>(⟨w.toArray⟩:Str)).length < 65536)&&(F.map fun w=>(⟨w.toArray⟩:Str)).all fun z=>decide (z.length≤1000))=true:=by
 simp only[pW,decide_eq_true_eq,List.all_eq_true,dv]
 refine⟨Nat.lt_trans h.1 (by decide),fun z hz=>?_⟩
 obtain⟨w,hw,rfl⟩:=List.mem_map.mp hz
 rw[jB]
 exact(h.2 w hw).2
theorem lQ{F:List (List Nat)}(h:Fit F):aJ [.list (F.map ae)]=some (.ow ((NhFam.ft F).map ae)):=by
 have a:nO (aa 0) [.sh (.list (F.map ae))]=some (.ow ((NhFam.ft F).map ae),[.sh (.list (F.map ae))]):=by
  unfold nO
  simp only[aa,Z2,Z0,look,Sl.val,pI,h.chk,if_true,vY,x_]
 have fl:=du (NhFam.ft F)
 simp only[aJ,cX,eZ,gT,bG,bq,a,Z0,Z1,cQ,bY,fl,Z4,Z5,Nat.sub_self,List.replicate,c9,lU,List.append_nil,Nat.reduceAdd,ca]
def bg(w:List Nat):PyData:=i5 (NH.a8 w)
theorem t_(l:List (List Nat)):bx (l.map bg)=true:=by
 induction l with
 |nil=>rfl
 |cons a l ih=>show(cE (bg a)&&bx (l.map bg))=true;rw[ih];rfl
theorem pJ(K:List (List Nat)):K.map bg=(K.map NH.a8).map i5:=by rw[List.map_map];rfl
theorem vZ{K:List (List Nat)}(h:∀k∈K,NH.lG k)(w:List Nat):(K.map NH.a8).any (fun p=>decide (p &&& NH.a8 w=p))=K.any (fun k=>decide (NhFam.le k w)):=by
 induction K with
 |nil=>rfl
 |cons k K ih=>
  rw[c9,List.any_cons,List.any_cons,ih fun k hk=>h k (fD _ hk)]
  congr 1
  exact decide_eq_decide.mpr (NH.tE (h k (f_ ..)))
theorem lr(x0:Sl):∀(S K:List (List Nat)) (a b:Sl),(∀w∈S,NH.lG w)→(∀w∈K,NH.lG w)→K.length+S.length≤2000→∃y a' b',bL bW bB (S.map ae) [x0,.ow (K.map ae),.ow (K.map bg),a,b]=some ([x0,.ow ((NhFam.fM K S).map ae),y,a',b'],.nx)
 |[],K,a,b,_,_,_=>⟨_,a,b,rfl⟩
 |w::S,K,a,b,hS,hK,hl=>by
  have tg:bW (ae w) [x0,.ow (K.map ae),.ow (K.map bg),a,b]=some [x0,.ow (K.map ae),.ow (K.map bg),.sh (ae w),b]:=rfl
  have c1:aj a_ (ab false (aa 3) ai) [x0,.ow (K.map ae),.ow (K.map bg),.sh (ae w),b]=some (.sh (.int (NH.a8 w)),[x0,.ow (K.map ae),.ow (K.map bg),.sh (ae w),b]):=aE (ss:=[.sh (ae w)]) rfl rfl (iB w)
  have s1:aL 4 (aj a_ (ab false (aa 3) ai)) [x0,.ow (K.map ae),.ow (K.map bg),.sh (ae w),b]=some ([x0,.ow (K.map ae),.ow (K.map bg),.sh (ae w),.sh (.int (NH.a8 w))],.nx):=dQ c1 (show 4 < 5 by decide)
  have pp:=x8 (NH.a8 w) (K.map NH.a8)
  rw[←pJ,vZ hK w]at pp
  have c2:dW (aj aB (ab false (aa 4) (ab false (aa 2) ai))) [x0,.ow (K.map ae),.ow (K.map bg),.sh (ae w),.sh (.int (NH.a8 w))]=some (K.any (fun k=>decide (NhFam.le k w)),[x0,.ow (K.map ae),.ow (K.map bg),.sh (ae w),.sh (.int (NH.a8 w))]):=by
   have c3:aj aB (ab false (aa 4) (ab false (aa 2) ai)) [x0,.ow (K.map ae),.ow (K.map bg),.sh (ae w),.sh (.int (NH.a8 w))]=some (.sh (.bool (K.any (fun k=>decide (NhFam.le k w)))),[x0,.ow (K.map ae),.ow (K.map bg),.sh (ae w),.sh (.int (NH.a8 w))]):=aE (ss:=[.sh (.int (NH.a8 w)),.al 2]) rfl rfl pp
   simp only[dW,c3,Z0,look,Sl.val,gl,Z1]
  by_cases h:K.any (fun k=>decide (NhFam.le k w))=true
  ·rw[h]at c2
   have st:(bW (ae w) [x0,.ow (K.map ae),.ow (K.map bg),a,b]).bind bB=some ([x0,.ow (K.map ae),.ow (K.map bg),.sh (ae w),.sh (.int (NH.a8 w))],.nx):=by
    rw[tg,Option.bind_some,bB,aK s1]
    refine gg ?_ rfl
    simp only[bS,c2,Z1,Bool.not_true]
   obtain⟨y,a',b',e⟩:=lr x0 S K (.sh (ae w)) (.sh (.int (NH.a8 w))) (fun v hv=>hS v (fD _ hv)) hK (by simp at hl;omega)
   refine⟨y,a',b',?_⟩
   rw[c9,bL,st,NhFam.fM,if_pos h]
   exact e
  ·have h':K.any (fun k=>decide (NhFam.le k w))=false:=by simpa using h
   rw[h']at c2
   have b1:K.length < 1000000:=by simp at hl;omega
   have st:(bW (ae w) [x0,.ow (K.map ae),.ow (K.map bg),a,b]).bind bB=some ([x0,.ow ((K++[w]).map ae),.ow ((K++[w]).map bg),.sh (ae w),.sh (.int (NH.a8 w))],.nx):=by
    rw[tg,Option.bind_some,bB,aK s1]
    have n2:bS (dW (aj aB (ab false (aa 4) (ab false (aa 2) ai)))) [x0,.ow (K.map ae),.ow (K.map bg),.sh (ae w),.sh (.int (NH.a8 w))]=some (true,[x0,.ow (K.map ae),.ow (K.map bg),.sh (ae w),.sh (.int (NH.a8 w))]):=by
     simp only[bS,c2,Z1,Bool.not_false]
    refine gB n2 ?_
    have a1:fk (dh 2 (aa 4)) [x0,.ow (K.map ae),.ow (K.map bg),.sh (ae w),.sh (.int (NH.a8 w))]=some ([x0,.ow (K.map ae),.ow ((K++[w]).map bg),.sh (ae w),.sh (.int (NH.a8 w))],.nx):=by
     simp only[fk,dh,Z3,Z2,aa,frz,Z0,dv,b1,Z7,Z6,if_true,Z1,List.map_append,c9,lU]
     rfl
    rw[aK a1]
    simp only[fk,dh,List.map_append,c9,lU,Z3,Z2,aa,frz,Z0,dv,b1,Z7,Z6,if_true,Z1]
   obtain⟨y,a',b',e⟩:=lr x0 S (K++[w]) (.sh (ae w)) (.sh (.int (NH.a8 w))) (fun v hv=>hS v (fD _ hv)) (fun v hv=>by
    rcases Zao.mp hv with q |q
    ·exact hK v q
    ·rw[Zaf.mp q];exact hS w (f_ ..)) (by simp at hl ⊢;omega)
   refine⟨y,a',b',?_⟩
   rw[c9,bL,st,NhFam.fM,if_neg h]
   exact e
theorem jR{F:List (List Nat)}(h:Fit F):bC [.list (F.map ae)]=some (.ow ((NhFam.aG F).map ae)):=by
 obtain⟨y,a,b,e⟩:=lr (.sh (.list (F.map ae))) (NhFam.ft F) [] .no .no (fun w hw=>(h.2 w (NhFam.sortT_mem.mp hw)).1) (fun w hw=>by cases hw) (by
  have:(NhFam.ft F).length=F.length:=(List.mergeSort_perm F _).length_eq
  have:=h.1
  simp;omega)
 have it:bH (aj aJ (ab false (aa 0) ai)) [.sh (.list (F.map ae)),.ow [],.ow [],.no,.no]=some ((NhFam.ft F).map ae,[.sh (.list (F.map ae)),.ow [],.ow [],.no,.no]):=by
  have c:aj aJ (ab false (aa 0) ai) [.sh (.list (F.map ae)),.ow [],.ow [],.no,.no]=some (.ow ((NhFam.ft F).map ae),[.sh (.list (F.map ae)),.ow [],.ow [],.no,.no]):=aE (ss:=[.sh (.list (F.map ae))]) rfl rfl (lQ h)
  unfold bH
  rw[c]
  rfl
 have fo:de (bH (aj aJ (ab false (aa 0) ai))) bW bB [.sh (.list (F.map ae)),.ow [],.ow [],.no,.no]=some ([.sh (.list (F.map ae)),.ow ((NhFam.aG F).map ae),y,a,b],.nx):=by
  unfold de
  rw[it,Option.bind_some]
  exact e
 have g:bC [.list (F.map ae)]=(e9 [.sh (.list (F.map ae)),.no,.no,.no,.no]).bind fun a=>match a.2 with |.rt r=>cQ r |.nx=>some (.sh .none) |_=>none:=rfl
 have s1:aL 1 (h8 gS) [.sh (.list (F.map ae)),.no,.no,.no,.no]=some ([.sh (.list (F.map ae)),.ow [],.no,.no,.no],.nx):=by simp only[aL,h8,gS,Z0,Z5,Nat.reduceLeDiff,PL.settle,frz,frzAll,Z4,Nat.reduceAdd,Nat.reduceLT,Z7,Z6,ca]
 have s2:aL 2 (h8 gS) [.sh (.list (F.map ae)),.ow [],.no,.no,.no]=some ([.sh (.list (F.map ae)),.ow [],.ow [],.no,.no],.nx):=by simp only[aL,h8,gS,Z0,Z5,Nat.reduceLeDiff,PL.settle,frz,frzAll,Z4,Nat.reduceAdd,Nat.reduceLT,Z7,Z6,ca]
 have fl:=du (NhFam.aG F)
 rw[g,e9,aK s1,aK s2,aK fo]
 simp only[bq,aa,Z3,Z2,Z0,Z7,Z6,Z1,cQ,bY,fl,if_true]
def wo(w:List Nat):Str:=⟨w.toArray⟩
theorem fR(w:List Nat):NhFam.Srt (aZ w):=List.Pairwise.sublist List.filter_sublist (List.pairwise_lt_range' ..)
theorem v5{w:List Nat}(h:NhFam.Srt w)(a:∀y∈w,az y):aZ w=w:=
 (fR w).ext h (fun x hx=>(inOrd_mem.mp hx).2) fun x hx=>inOrd_mem.mpr ⟨iz (a x hx),hx⟩
theorem ya:∀F:List (List Nat),Txt.join "" (F.map wo)=⟨F.flatten.toArray⟩:=by
 intro F
 show Builtin.Str.glued "" _=_
 rw[StrLaws.glued_eq_join]
 induction F with
 |nil=>rfl
 |cons a F ih=>
  cases F with
  |nil=>simp[Str.join,wo]
  |cons b F=>
   have e:Str.join "" ((a::b::F).map wo)=(wo a)++""++Str.join "" ((b::F).map wo):=rfl
   rw[e,ih]
   show(⟨(a.toArray++(Str.ofString "").cps)++(b::F).flatten.toArray⟩:Str)=_
   rw[show(Str.ofString "").cps=#[] by decide+kernel]
   simp
theorem mL:∀F:List (List Nat),eI (F.map ae)=some (F.map wo)
 |[]=>rfl
 |w::F=>by
  show(eI (F.map ae)).map (wo w:: ·)=_
  rw[mL F]
  rfl
theorem v6:∀F:List (List Nat),((F.map wo).map (·.length)).sum+(F.map wo).length*(Str.ofString "").length=F.flatten.length:=by
 intro F
 have:(Str.ofString "").length=0:=rfl
 rw[this,Nat.mul_zero,Nat.add_zero]
 induction F with
 |nil=>rfl
 |cons a F ih=>
  simp only[c9,List.sum_cons,ih,List.flatten_cons,List.length_append]
  rw[show(wo a).length=a.length from jB a]
theorem lR{w:List Nat}(h:w.length≤10):bX [ae w]=some (.sh .none):=by
 have l:=jB w
 have lt:¬((w.length:Int) > 10):=by omega
 have lb:w.length≤1000000:=by omega
 simp only[bX,eZ,ae,Z4,Z5,gT,eQ,cF,eL,af,bJ,ab,aa,bG,c9,lU,Nat.sub_self,List.replicate,Z9,Z8,Z2,Sl.isBr,ai,Z1,Z0,eD,cy,look,Sl.val,l,lb,pC,fF,dE,Cm.i,Cm.s,lt,bK,cQ,bY,ca]
theorem eS{js:List (Option Nat)}{it:iJ}{tg:gb}{c:gh}{el:aO}{E E1:List Sl}{ds rs:List PyData}(hi:it E=some (ds,E1))(hl:bZ tg c el ds (ie js E1)=some rs)(fl:bx rs=true)(ll:rs.length≤1000000):bd js it tg c el E=some (.ow rs,E1):=by
 simp only[bd,hi,Z0,hl,fl,ll,and_self,Z1,Bool.and_self,ca]
theorem mM:∀(F:List (List Nat)) (x:Sl),bZ bi aR bj (F.map ae) [x]=some (F.map bg)
 |[],x=>rfl
 |v::F,x=>by
  have t:bi (ae v) [x]=some [.sh (ae v)]:=rfl
  have e:bj [.sh (ae v)]=some (.sh (.int (NH.a8 v)),[.sh (ae v)]):=aE (ss:=[.sh (ae v)]) rfl rfl (iB v)
  exact fw t e (mM F _)
theorem v7{K:List (List Nat)}(h:∀k∈K,NH.lG k)(w:List Nat):(K.map NH.a8).all (fun p=> !decide (p &&& NH.a8 w=0))=NhFam.gf K w:=by
 unfold NhFam.gf
 induction K with
 |nil=>rfl
 |cons k K ih=>
  rw[c9,List.all_cons,List.all_cons,ih fun k hk=>h k (fD _ hk)]
  congr 1
  exact congrArg not (decide_eq_decide.mpr (NH.tF (h k (f_ ..))))
theorem yI{tg:gb}{cond:gh}{elt:aO}{d r:PyData}{ds rs:List PyData}{E E1:List Sl}{b:Bool}(t:tg d E=some E1)(c:cond E1=some (b,E1))(el:elt E1=some (.sh r,E1))(h:bZ tg cond elt ds E1=some rs):bZ tg cond elt (d::ds) E=some (if b then r::rs else rs):=by
 cases b with
 |true=>simp only[bZ,t,c,el,h,Z0,Z1,if_true,frz]
 |false=>simp only[bZ,t,c,h,Z0,ca]
theorem se{K:List (List Nat)}(hK:∀k∈K,NH.lG k):∀(F:List (List Nat)) (x:Sl),bZ bn aT bp (F.map ae) [x,.sh (.list (K.map bg))]=some ((F.filter (NhFam.gf K)).map ae)
 |[],x=>rfl
 |v::F,x=>by
  have t:bn (ae v) [x,.sh (.list (K.map bg))]=some [.sh (ae v),.sh (.list (K.map bg))]:=rfl
  have el:bp [.sh (ae v),.sh (.list (K.map bg))]=some (.sh (ae v),[.sh (ae v),.sh (.list (K.map bg))]):=rfl
  have c1:aj a_ (ab false (aa 0) ai) [.sh (ae v),.sh (.list (K.map bg))]=some (.sh (.int (NH.a8 v)),[.sh (ae v),.sh (.list (K.map bg))]):=aE (ss:=[.sh (ae v)]) rfl rfl (iB v)
  have pm:=vV (NH.a8 v) (K.map NH.a8)
  rw[←pJ,v7 hK v]at pm
  have c2:aj bA (ab false (aj a_ (ab false (aa 0) ai)) (ab false (aa 1) ai)) [.sh (ae v),.sh (.list (K.map bg))]=some (.sh (.bool (NhFam.gf K v)),[.sh (ae v),.sh (.list (K.map bg))]):=aE (ss:=[.sh (.int (NH.a8 v)),.sh (.list (K.map bg))]) (by simp only[ab,ai,c1,Z0,Z1,aa,Z3,Z2,ca]) rfl pm
  have c:aT [.sh (ae v),.sh (.list (K.map bg))]=some (NhFam.gf K v,[.sh (ae v),.sh (.list (K.map bg))]):=by
   unfold aT
   simp only[dW,c2,Z0,look,Sl.val,gl,Z1]
  rw[c9,yI t c el (se hK F _),List.filter_cons]
  split <;> rfl
theorem yb{f:aO}{E E1:List Sl}{r:Sl}(h:f E=some (r,E1)):fk f E=some (E1,.nx):=by
 simp only[fk,h,Z1]
theorem jC{f:aO}{E E1:List Sl}{ds:List PyData}{i:Nat}(h:f E=some (.ow ds,E1))(hi:i < E1.length):aL i f E=some (E1.set i (.ow ds),.nx):=by
 simp only[aL,h,Z0,PL.settle,Sl.isAl,hi,Z1,ca]
theorem Ap(cell:Int)(many:Nat)(hm:many≤26):∃w:List Nat,bw [.int cell,.int many]=some (.ow (w.map av))∧w.length=many∧(∀a∈w,az a)∧w.Nodup:=by
 have m0:=Int.emod_nonneg (cell / 26) (show(12:Int)≠0 by decide)
 have m1:=Int.emod_lt_of_pos (cell / 26) (show(0:Int) < 12 by decide)
 obtain⟨i,hi⟩:∃i:Nat,cell / 26 % 12=i:=⟨(cell / 26 % 12).toNat,by omega⟩
 obtain⟨v,ev,v0,v1,v2⟩:=vS i (by omega)
 have e:=mH cell v v0 v1 many 0 .no
 simp only[Int.natCast_zero]at e
 refine⟨(List.range' 0 many).map (ix cell v),tY cell many v i many _ (by decide) hi (by rw[gq,ev]) (by omega) (by omega) (by simp) e (gC _) (by simp;omega),by simp,fun a ha=>?_,?_⟩
 ·obtain⟨k,_,rfl⟩:=List.mem_map.mp ha
  exact tZ cell v k
 ·rw[List.Nodup,List.pairwise_map]
  refine List.Pairwise.imp_of_mem ?_ (List.pairwise_lt_range' (s:=0) (n:=many))
  intro a b ha hb hab
  exact qM v2 hab (by have:=List.mem_range'_1.mp hb;omega)
theorem ua{w:List Nat}(n:w.Nodup)(a:∀y∈w,az y):gc (w.map df)=(aZ w).map df:=by
 refine(List.Perm.eq_of_pairwise (fun _ _ _ _ h k=>kD h k) (iZ w) (List.pairwise_mergeSort gM jl _) ?_).symm
 refine List.Perm.trans ?_ (List.mergeSort_perm _ _).symm
 refine f8 (iA (gD w)) (iA n) fun y=>?_
 constructor
 ·intro h
  obtain⟨a,ha,rfl⟩:=List.mem_map.mp h
  exact List.mem_map.mpr ⟨a,(inOrd_mem.mp ha).2,rfl⟩
 ·intro h
  obtain⟨b,hb,rfl⟩:=List.mem_map.mp h
  exact List.mem_map.mpr ⟨b,inOrd_mem.mpr ⟨iz (a b hb),hb⟩,rfl⟩
theorem pK{w:List Nat}(n:w.Nodup)(a:∀y∈w,az y):(aZ w).length=w.length:=
 (f8 (gD w) n fun y=>⟨fun h=>(inOrd_mem.mp h).2,fun h=>inOrd_mem.mpr ⟨iz (a y h),h⟩⟩).length_eq
def AK(U:List Nat)(m lo:Nat):List Nat→List Nat
 |[]=>[]
 |x::r=>if (m >>> lo) % 2=1 then x::AK U m (lo+1) r else AK U m (lo+1) r
theorem pL(U:List Nat)(m:Nat):∀(r:List Nat) (lo:Nat),AK U m lo r=NhFam.gi r (m >>> lo)
 |[],_=>rfl
 |x::r,lo=>by
  rw[AK,NhFam.gi,pL U m r (lo+1),Nat.shiftRight_succ]
theorem Aq{E:List Sl}{f g:aO}{x y:Nat}(hf:f E=some (.sh (.int x),E))(hg:g E=some (.sh (.int y),E)):af u5 false f g E=some (.sh (.int ((x >>> y:Nat):Int)),E):=by
 have e:(x:Int) / 2 ^ y=((x >>> y:Nat):Int):=by
  rw[Nat.shiftRight_eq_div_pow]
  push_cast
  rfl
 have h0:(0:Int)≤(y:Int):=Int.natCast_nonneg _
 simp only[af,hf,hg,Z0,u5,fF,oA,look,Sl.val,h0,Z1,Int.toNat_natCast,e,ca]
theorem v8(U:List Nat)(m lo x:Nat)(h:U[lo]? =some x):ck [.sh (.int lo),.sh (.list (U.map av)),.sh (.int m)]=some (.sh (av x),[.sh (.int lo),.sh (.list (U.map av)),.sh (.int m)]):=by
 have a:atI (U.map av) (lo:Int)=some (av x):=by rw[gq,qT,h];rfl
 simp only[ck,af,aa,Z3,Z2,Sl.isBr,sN,look,Sl.val,gR,jc,Z0,a,av,Z1,ca]
theorem v9(U:List Nat)(m lo:Nat)(y:Sl):cq [.sh (.int lo),y,.sh (.int m)]=some (decide ((m >>> lo) % 2=1),[.sh (.int lo),y,.sh (.int m)]):=by
 have a:=Aq (E:=[.sh (.int lo),y,.sh (.int m)]) (f:=aa 2) (g:=aa 0) (x:=m) (y:=lo) rfl rfl
 have b:=qP (f:=af u5 false (aa 2) (aa 0)) (g:=pC (.int 1)) (x:=m >>> lo) (y:=1) a rfl
 have e:=pG b (show pC (.int 1) [.sh (.int lo),y,.sh (.int m)]=some (.sh (.int 1),[.sh (.int lo),y,.sh (.int m)])from rfl)
 unfold cq
 rw[e,Nat.and_one_is_mod]
 congr 2
 exact decide_eq_decide.mpr (by omega)
theorem v_(U:List Nat)(m:Nat):∀(r:List Nat) (lo:Nat) (x:Sl),(∀i,r[i]? =U[lo+i]?)→bZ cO cq ck (iN lo r.length) [x,.sh (.list (U.map av)),.sh (.int m)]=some ((AK U m lo r).map av)
 |[],lo,x,_=>rfl
 |y::r,lo,x,h=>by
  have h0:U[lo]? =some y:=by have:=h 0;simpa using this.symm
  have ih:=v_ U m r (lo+1) (.sh (.int lo)) (fun i=>by have:=h (i+1);rw[List.getElem?_cons_succ]at this;rw[this];congr 1;omega)
  have t:cO (.int lo) [x,.sh (.list (U.map av)),.sh (.int m)]=some [.sh (.int lo),.sh (.list (U.map av)),.sh (.int m)]:=rfl
  rw[show((lo+1:Nat):Int)=(lo:Int)+1 by omega]at ih
  rw[List.length_cons,jj,yI t (v9 U m lo _) (v8 U m lo y h0) ih,AK]
  by_cases q:(m >>> lo) % 2=1
  ·simp only[q,c9,ca]
  ·simp only[q,ca]
theorem qQ(U:List Nat)(m:Nat)(hl:U.length≤1000):c8 [.int m,.list (U.map av)]=some (.sh (ae (NhFam.gi U m))):=by
 have e:=v_ U m U 0 .no (fun i=>by rw[Nat.zero_add])
 rw[pL,Nat.shiftRight_zero]at e
 have o1:(-1000000:Int)≤(U.length:Int):=by omega
 have o2:(U.length:Int)≤1000000:=by omega
 have lb:U.length≤1000000:=by omega
 have it:eG (ab false (bJ eD (ab false (aa 1) ai)) ai) [.sh (.int m),.sh (.list (U.map av))]=some (iN 0 U.length,[.sh (.int m),.sh (.list (U.map av))]):=by
  simp only[eG,ab,bJ,aa,Z3,Z2,Sl.isBr,ai,Z1,Z0,eD,cy,look,Sl.val,dv,o1,o2,and_self,Int.toNat_natCast,ca]
 have ll:(NhFam.gi U m).length≤1000000:=gG (NhFam.gw U m).length_le lb
 have p:bd [none,some 1,some 0] (eG (ab false (bJ eD (ab false (aa 1) ai)) ai)) cO cq ck [.sh (.int m),.sh (.list (U.map av))]=some (.ow ((NhFam.gi U m).map av),[.sh (.int m),.sh (.list (U.map av))]):=eS it e (gC _) (by rw[dv];exact ll)
 have l:=nW (NhFam.gi U m)
 have j:=lq (NhFam.gi U m)
 have a:fJ "" (bd [none,some 1,some 0] (eG (ab false (bJ eD (ab false (aa 1) ai)) ai)) cO cq ck) [.sh (.int m),.sh (.list (U.map av))]=some (.sh (.str ⟨(NhFam.gi U m).toArray⟩),[.sh (.int m),.sh (.list (U.map av))]):=by
  simp only[fJ,lD,ma,p,Z0,look,Sl.val,jQ,l,ll,if_true,Z1,j]
 have fx:cE (PyData.str ⟨(NhFam.gi U m).toArray⟩)=true:=rfl
 simp only[c8,gQ,eZ,gT,bG,bq,a,Z0,Z1,cQ,bY,fx,Z4,Z5,Nat.sub_self,List.replicate,c9,lU,List.append_nil,Nat.reduceAdd,ae,ca]
structure Uni (U:List Nat):Prop where
 srt:NhFam.Srt U
 lt:∀a∈U,az a
 len:U.length≤10
theorem Uni.ltrs{U w:List Nat}(h:Uni U)(s:NhFam.eO U w):NH.lG w:=fun a ha=>by
 have:=h.lt a (s.2 a ha)
 exact⟨this.1,this.2⟩
theorem Uni.azw{U w:List Nat}(h:Uni U)(s:NhFam.eO U w):∀a∈w,az a:=fun a ha=>h.lt a (s.2 a ha)
theorem Uni.short{U w:List Nat}(h:Uni U)(s:NhFam.eO U w):w.length≤10:=gG (NhFam.c_ s.1 h.srt s.2).length_le h.len
theorem Uni.small{U V:List Nat}(u:Uni U)(hV:NhFam.eO U V):Uni V:=⟨hV.1,u.azw hV,u.short hV⟩
structure Wrt (U:List Nat) (W:List (List Nat)):Prop where
 sub:∀t∈W,NhFam.le t U
 tl:∀t∈W,t.length≤20
 len:W.length≤1024
 fl:W.flatten.length≤3800
def dF(W:List (List Nat)):List (List Nat):=W.map aZ
theorem yd{U t:List Nat}(u:Uni U)(h:NhFam.le t U):NhFam.eO U (aZ t):=⟨fR t,fun x hx=>h x (inOrd_mem.mp hx).2⟩
theorem Wrt.sets{U:List Nat}{W:List (List Nat)}(u:Uni U)(h:Wrt U W):∀v∈dF W,NhFam.eO U v:=fun v hv=>by
 obtain⟨t,ht,rfl⟩:=List.mem_map.mp hv
 exact yd u (h.sub t ht)
theorem wa{U:List Nat}{F:List (List Nat)}(u:Uni U)(h:∀v∈F,NhFam.eO U v)(hl:F.length < 1100):Fit F:=⟨hl,fun w hw=>⟨u.ltrs (h w hw),by have:=u.short (h w hw);omega⟩⟩
theorem g5{U:List Nat}(u:Uni U):∀(W:List (List Nat)) (x:Sl),(∀t∈W,NhFam.le t U)→(∀t∈W,t.length≤20)→bZ bN aR bO (W.map ae) [x]=some ((dF W).map ae)
 |[],x,_,_=>rfl
 |v::W,x,h,hl=>by
  have t:bN (ae v) [x]=some [.sh (ae v)]:=rfl
  have so:=mK (w:=v) (fun y hy=>u.lt y (h v (f_ ..) y hy)) (by have:=hl v (f_ ..);omega)
  have e:bO [.sh (ae v)]=some (.sh (ae (aZ v)),[.sh (ae v)]):=aE (ss:=[.sh (ae v)]) rfl rfl so
  exact fw t e (g5 u W _ (fun v hv=>h v (fD _ hv)) fun v hv=>hl v (fD _ hv))
theorem g6{U:List Nat}{W:List (List Nat)}(u:Uni U)(h:Wrt U W):aC [.list (W.map ae)]=some (.ow ((NhFam.aG (dF W)).map ae)):=by
 have ls:(dF W).length=W.length:=by unfold dF;rw[dv]
 have hl:=h.len
 have c:bd [none] (bH (aa 0)) bN aR bO [.sh (.list (W.map ae))]=some (.ow ((dF W).map ae),[.sh (.list (W.map ae))]):=eS rfl (g5 u W _ h.sub h.tl) (du _) (by rw[dv];omega)
 have b:aj bC (ab false (bd [none] (bH (aa 0)) bN aR bO) ai) [.sh (.list (W.map ae))]=some (.ow ((NhFam.aG (dF W)).map ae),[.sh (.list (W.map ae))]):=aE (ss:=[.ow ((dF W).map ae)]) (by simp only[ab,ai,c,Z0,Z1,ca]) rfl (jR (wa u (h.sets u) (by omega)))
 have fl:=du (NhFam.aG (dF W))
 simp only[aC,eR,eZ,gT,bG,bq,b,Z0,Z1,cQ,bY,fl,Z4,Z5,Nat.sub_self,List.replicate,c9,lU,List.append_nil,Nat.reduceAdd,ca]
theorem kf{W:List (List Nat)}{k:Nat}(h:∀t∈W,t.length≤k):W.flatten.length≤W.length*k:=by
 induction W with
 |nil=>simp
 |cons a W ih=>
  have:=ih fun v hv=>h v (fD _ hv)
  have:=h a (f_ ..)
  simp only[List.flatten_cons,List.length_append,Z4,Nat.add_mul]
  omega
theorem ly{U:List Nat}{W:List (List Nat)}(u:Uni U)(h:Wrt U W):be [.list (W.map ae)]=some (.sh (ae (aZ W.flatten))):=by
 have fl:=h.fl
 have hl:=h.len
 have e:=mK (w:=W.flatten) (fun y hy=>by
  obtain⟨v,hv,hy⟩:=List.mem_flatten.mp hy
  exact u.lt y (h.sub v hv y hy)) (by omega)
 have l:=v6 W
 have l2:W.flatten.length≤1000000:=by omega
 have j:=ya W
 have a:fJ "" (aa 0) [.sh (.list (W.map ae))]=some (.sh (.str ⟨W.flatten.toArray⟩),[.sh (.list (W.map ae))]):=by
  simp only[fJ,lD,ma,aa,Z2,Z0,look,Sl.val,mL,l,l2,if_true,Z1,j]
 have b:aj cN (ab false (fJ "" (aa 0)) ai) [.sh (.list (W.map ae))]=some (.sh (ae (aZ W.flatten)),[.sh (.list (W.map ae))]):=aE (ss:=[.sh (.str ⟨W.flatten.toArray⟩)]) (by simp only[ab,ai,a,Z0,Z1,ca]) rfl e
 have fx:cE (ae (aZ W.flatten))=true:=rfl
 simp only[be,dU,eZ,gT,bG,bq,b,Z0,Z1,cQ,bY,fx,Z4,Z5,Nat.sub_self,List.replicate,c9,lU,List.append_nil,Nat.reduceAdd,ca]
theorem mN{U:List Nat}{W:List (List Nat)}(u:Uni U)(h:Wrt U W):NhFam.eO U (aZ W.flatten):=⟨fR _,fun x hx=>by
 obtain⟨v,hv,hx⟩:=List.mem_flatten.mp (inOrd_mem.mp hx).2
 exact h.sub v hv x hx⟩
theorem ub{U:List Nat}{W:List (List Nat)}(u:Uni U)(h:Wrt U W):∀v∈dF W,NhFam.le v (aZ W.flatten):=fun v hv x hx=>by
 obtain⟨t,ht,rfl⟩:=List.mem_map.mp hv
 obtain⟨a,b⟩:=inOrd_mem.mp hx
 exact inOrd_mem.mpr ⟨a,List.mem_flatten.mpr ⟨t,ht,b⟩⟩
theorem mO(L M:List (List Nat))(hn:L.Nodup)(hm:∀w∈L,w∈M):L.length≤M.length:=by
 induction L generalizing M with
 |nil=>simp
 |cons a L ih=>
  have hn':=List.nodup_cons.mp hn
  have:=ih (M.erase a) hn'.2 fun w hw=>(List.mem_erase_of_ne (a:=w) (b:=a) (fun e=>hn'.1 (by rw[←e];exact hw))).mpr (hm w (fD _ hw))
  rw[List.length_erase_of_mem (hm a (f_ ..))]at this
  have pos:0 < M.length:=List.length_pos_of_mem (hm a (f_ ..))
  simp only[Z4]
  omega
theorem pM{U:List Nat}{L:List (List Nat)}{f:List Nat→Prop}(u:Uni U)(t:NhFam.Told U L f):L.length≤1024:=by
 have:=mO L (NhFam.jv U) (NhFam.gN t.srt) fun w hw=>(NhFam.iU u.srt).mpr (t.sub w hw)
 rw[NhFam.kR]at this
 have p:2 ^ U.length≤2 ^ 10:=Nat.pow_le_pow_right (by decide) u.len
 omega
theorem ye{V:List Nat}(u:Uni V)(p:List Nat→Bool):((NhFam.jv V).filter p).length≤1024:=by
 have:=List.length_filter_le p (NhFam.jv V)
 rw[NhFam.kR]at this
 have q:2 ^ V.length≤2 ^ 10:=Nat.pow_le_pow_right (by decide) u.len
 omega
theorem eK{U:List Nat}{W:List (List Nat)}(u:Uni U)(h:Wrt U W):am [.list (W.map ae)]=some (.ow ((NhFam.jO (dF W) (aZ W.flatten)).map ae)):=by
 have tl:=NhFam.fu (h.sets u)
 have lL:=pM u tl
 have hV:=mN u h
 have uV:=u.small hV
 have hK:∀k∈NhFam.aG (dF W),NH.lG k:=fun k hk=>u.ltrs (tl.sub k hk)
 have cnt:=ye uV (NhFam.gf (NhFam.aG (dF W)))
 generalize eV:aZ W.flatten=V at hV uV cnt
 generalize eF:dF W=F at tl lL hK cnt
 have pl:=g6 u h
 rw[eF]at pl
 have pn:=ly u h
 rw[eV]at pn
 have c1:aj aC (ab false (aa 0) ai) [.sh (.list (W.map ae)),.no,.no]=some (.ow ((NhFam.aG F).map ae),[.sh (.list (W.map ae)),.no,.no]):=aE (ss:=[.sh (.list (W.map ae))]) rfl rfl pl
 have i1:bH (aj aC (ab false (aa 0) ai)) [.sh (.list (W.map ae)),.no,.no]=some ((NhFam.aG F).map ae,[.sh (.list (W.map ae)),.no,.no]):=by
  unfold bH
  rw[c1]
  rfl
 have p1:bd [none] (bH (aj aC (ab false (aa 0) ai))) bi aR bj [.sh (.list (W.map ae)),.no,.no]=some (.ow ((NhFam.aG F).map bg),[.sh (.list (W.map ae)),.no,.no]):=eS i1 (mM _ _) (t_ _) (by rw[dv];omega)
 have s1:aL 1 (bd [none] (bH (aj aC (ab false (aa 0) ai))) bi aR bj) [.sh (.list (W.map ae)),.no,.no]=some ([.sh (.list (W.map ae)),.ow ((NhFam.aG F).map bg),.no],.nx):=jC p1 (show 1 < 3 by decide)
 have c2:aj be (ab false (aa 0) ai) [.sh (.list (W.map ae)),.ow ((NhFam.aG F).map bg),.no]=some (.sh (ae V),[.sh (.list (W.map ae)),.ow ((NhFam.aG F).map bg),.no]):=aE (ss:=[.sh (.list (W.map ae))]) rfl rfl pn
 have s2:aL 2 (aj be (ab false (aa 0) ai)) [.sh (.list (W.map ae)),.ow ((NhFam.aG F).map bg),.no]=some ([.sh (.list (W.map ae)),.ow ((NhFam.aG F).map bg),.sh (ae V)],.nx):=dQ c2 (show 2 < 3 by decide)
 have c3:fk (aj bX (ab false (aa 2) ai)) [.sh (.list (W.map ae)),.ow ((NhFam.aG F).map bg),.sh (ae V)]=some ([.sh (.list (W.map ae)),.ow ((NhFam.aG F).map bg),.sh (ae V)],.nx):=yb (aE (ss:=[.sh (ae V)]) rfl rfl (lR (by have:=uV.len;omega)))
 have c4:aj bD (ab false (aa 2) ai) [.sh (.list (W.map ae)),.ow ((NhFam.aG F).map bg),.sh (ae V)]=some (.ow ((x9 V).map ae),[.sh (.list (W.map ae)),.ow ((NhFam.aG F).map bg),.sh (ae V)]):=aE (ss:=[.sh (ae V)]) rfl rfl (Ao _ (by have:=uV.len;omega))
 have i4:bH (aj bD (ab false (aa 2) ai)) [.sh (.list (W.map ae)),.ow ((NhFam.aG F).map bg),.sh (ae V)]=some ((NhFam.jv V).map ae,[.sh (.list (W.map ae)),.ow ((NhFam.aG F).map bg),.sh (ae V)]):=by
  unfold bH
  rw[c4]
  rfl
 have fit:Fit ((NhFam.jv V).filter (NhFam.gf (NhFam.aG F))):=wa uV (fun v hv=>(NhFam.iU uV.srt).mp (List.mem_filter.mp hv).1) (by omega)
 have p4:bd [none,some 1] (bH (aj bD (ab false (aa 2) ai))) bn aT bp [.sh (.list (W.map ae)),.ow ((NhFam.aG F).map bg),.sh (ae V)]=some (.ow (((NhFam.jv V).filter (NhFam.gf (NhFam.aG F))).map ae),[.sh (.list (W.map ae)),.ow ((NhFam.aG F).map bg),.sh (ae V)]):=eS i4 (se hK _ _) (du _) (by rw[dv];omega)
 have c5:aj bC (ab false (bd [none,some 1] (bH (aj bD (ab false (aa 2) ai))) bn aT bp) ai) [.sh (.list (W.map ae)),.ow ((NhFam.aG F).map bg),.sh (ae V)]=some (.ow ((NhFam.jO F V).map ae),[.sh (.list (W.map ae)),.ow ((NhFam.aG F).map bg),.sh (ae V)]):=aE (ss:=[.ow (((NhFam.jv V).filter (NhFam.gf (NhFam.aG F))).map ae)]) (by simp only[ab,ai,p4,Z0,Z1,ca]) rfl (jR fit)
 have g:am [.list (W.map ae)]=(cH [.sh (.list (W.map ae)),.no,.no]).bind fun a=>match a.2 with |.rt r=>cQ r |.nx=>some (.sh .none) |_=>none:=rfl
 have fl:=du (NhFam.jO F V)
 rw[g,cH,aK s1,aK s2,aK c3]
 simp only[bq,c5,Z1,Z0,cQ,bY,fl,if_true]
theorem fN{U:List Nat}{W:List (List Nat)}(u:Uni U)(h:Wrt U W):NhFam.Told U (NhFam.jO (dF W) (aZ W.flatten)) (NhFam.cP (dF W)):=by
 have s:=mN u h
 exact(NhFam.fN u.srt s.1 s.2 (h.sets u) (ub u h)).congr fun w hw=>(NhFam.eU (h.sets u)).symm
theorem jD{U:List Nat}{L:List (List Nat)}(u:Uni U)(h:∀w∈L,NhFam.eO U w):dF L=L:=by
 unfold dF
 induction L with
 |nil=>rfl
 |cons w L ih=>
  rw[c9,ih fun v hv=>h v (fD _ hv),v5 (h w (f_ ..)).1 (u.azw (h w (f_ ..)))]
theorem BR{f g:aO}{E:List Sl}{s1 s2:Sl}(hf:f E=some (s1,E))(hg:g E=some (s2,E)):ab false f (ab false g ai) E=some ([s1,s2],E):=by
 simp only[ab,ai,hf,hg,Z0,Z1,ca]
theorem iC{E:List Sl}{f g:aO}{x y:Int}(hf:f E=some (.sh (.int x),E))(hg:g E=some (.sh (.int y),E))(h:0 < y):af cZ false f g E=some (.sh (.int (x % y)),E):=by
 simp only[af,hf,hg,Z0,cZ,fF,oA,look,Sl.val,h,Z1,ca]
theorem f9{E:List Sl}{f g:aO}{x y:Int}(hf:f E=some (.sh (.int x),E))(hg:g E=some (.sh (.int y),E))(h:gV y=true):af cw false f g E=some (.sh (.int (x / y)),E):=by
 simp only[af,hf,hg,Z0,cw,fF,oA,look,Sl.val,h,Z1,ca]
theorem wb{E:List Sl}{f g:aO}{y:Nat}(hf:f E=some (.sh (.int 1),E))(hg:g E=some (.sh (.int y),E))(h:y≤1000):af u6 false f g E=some (.sh (.int ((2 ^ y:Nat):Int)),E):=by
 have c:(0:Int)≤(y:Int)∧(y:Int)≤1000000∧ -(2 ^ 64) < (1:Int)∧(1:Int) < 2 ^ 64:=⟨by omega,by omega,by decide,by decide⟩
 have e:(1:Int)*2 ^ y=((2 ^ y:Nat):Int):=by push_cast;omega
 simp only[af,hf,hg,Z0,u6,fF,oA,look,Sl.val,c,and_self,Z1,Int.toNat_natCast,e,ca]
theorem uc{E:List Sl}{c:Int}{i:Nat}(h:E[i]? =some (.sh (.int c))):∃b,bS (eL (eC (dE .lt) (dE .lt) false false (lD sM (af oB false (pC (.int 10)) (pC (.int 18)))) (aa i) (af oB false (pC (.int 10)) (pC (.int 18))))) E=some (b,E):=by
 have v:aa i E=some (.sh (.int c),E):=by simp only[aa,h]
 have p:af oB false (pC (.int 10)) (pC (.int 18)) E=some (.sh (.int 1000000000000000000),E):=by
  simp only[af,pC,Z0,oB,fF,oA,look,Sl.val,Z1,ca]
  rfl
 have n:lD sM (af oB false (pC (.int 10)) (pC (.int 18))) E=some (.sh (.int (-1000000000000000000)),E):=by
  simp only[lD,p,Z0,look,Sl.val,sM,Z1]
 by_cases h1:(-1000000000000000000:Int) < c
 ·by_cases h2:c < 1000000000000000000
  ·exact⟨false,by simp only[bS,eL,eC,n,v,p,Z0,look,Sl.val,dE,Cm.i,h1,h2,Z1,Bool.or_self,Sl.isBr,ca]⟩
  ·exact⟨true,by simp only[bS,eL,eC,n,v,p,Z0,look,Sl.val,dE,Cm.i,h1,h2,Z1,Bool.or_self,Sl.isBr,ca]⟩
 ·exact⟨true,by simp only[bS,eL,eC,n,v,p,Z0,look,Sl.val,dE,Cm.i,h1,Z1,Bool.or_self,Sl.isBr,ca]⟩
theorem Ar{E:List Sl}{f:aO}{z:Int}{c:Nat}(hf:f E=some (.sh (.int z),E))(h1:z=(c:Int))(h2:c≤1000):eG (ab false f ai) E=some (iN 0 c,E):=by
 have o1:(-1000000:Int)≤z:=by omega
 have o2:z≤1000000:=by omega
 have t:z.toNat=c:=by omega
 simp only[eG,ab,ai,hf,Z0,Z1,cy,look,Sl.val,o1,o2,and_self,t,ca]
theorem As{w:List Nat}(h:∀a∈w,az a):(ae w).canLay0=true:=by
 have:∀a∈w,a < 1114112:=fun a ha=>by have:=h a ha;unfold az at this;omega
 simp only[ae,PyData.canLay0,PyData.strOk]
 simpa using this
theorem wc:∀{L:List (List Nat)},(∀w∈L,∀a∈w,az a)→PyData.canLayAll0 (L.map ae)=true∧PyData.depthAll (L.map ae)=0
 |[],_=>by simp[PyData.canLayAll0,PyData.depthAll]
 |w::L,h=>by
  obtain⟨x,y⟩:=wc (L:=L) fun v hv=>h v (fD _ hv)
  have h1:=As (h w (f_ ..))
  have h2:(ae w).depth=0:=by simp[ae,PyData.depth]
  simp only[c9,PyData.canLayAll0,PyData.depthAll,h1,h2,x,y,Bool.and_self,true_and]
  rfl
theorem ud{L:List (List Nat)}(h:∀w∈L,∀a∈w,az a):SeqAt.shaped (.list (L.map ae))=true:=by
 obtain⟨x,y⟩:=wc h
 unfold SeqAt.shaped
 simp only[PyData.canLay0,PyData.depth,x,y,Bool.true_and]
 decide
theorem wd:∀L:List (List Nat),PyData.eqvAll (L.map ae) (L.map ae)=true
 |[]=>by simp[PyData.eqvAll]
 |w::L=>by
  simp only[c9,PyData.eqvAll,wd L,Bool.and_true]
  simp[ae,PyData.eqv]
theorem we{L:List (List Nat)}(h:∀w∈L,∀a∈w,az a):w_ (.list (L.map ae)) (.list (L.map ae))=some true:=by
 have e:w_ (.list (L.map ae)) (.list (L.map ae))=(if SeqAt.shaped (.list (L.map ae))&&SeqAt.shaped (.list (L.map ae))then some (PyData.eqv (.list (L.map ae)) (.list (L.map ae)))else none):=rfl
 rw[e,ud h]
 simp only[PyData.eqv,wd,Bool.and_self,if_true]
theorem yJ{f:aO}{E:List Sl}{s1:Sl}(hf:f E=some (s1,E)):ab false f ai E=some ([s1],E):=by
 simp only[ab,ai,hf,Z0,Z1,ca]
theorem lz{E:List Sl}{i:Nat}{ds:List PyData}(h:E[i]? =some (.ow ds))(hl:ds.length≤1000000):c7 (aa i) E=some (.ow ds,E):=by
 have v:aa i E=some (.al i,E):=by simp only[aa,h]
 have e:look E (.al i)=some (.list ds):=by simp only[look,h,Z0,Sl.val]
 have ho:gR E (.al i)=false:=by simp only[gR,h,Option.any_some,jc]
 simp only[c7,v,Z0,e,ho,hl,Z1,Bool.false_or,ca]
theorem ue{E:List Sl}{f:aO}{w:List Nat}(hf:f E=some (.ow (w.map av),E))(hl:w.length < 64)(n:w.Nodup)(a:∀y∈w,az y):iO f E=some (.ow ((aZ w).map av),E):=by
 have l:(w.map df).length < 64:=by rw[dv];exact hl
 have m:((aZ w).map df).map PyData.str=(aZ w).map av:=by rw[List.map_map];rfl
 simp only[iO,hf,Z0,look,Sl.val,lh,l,if_true,ua n a,m]
theorem BS{n:Nat}(z:Int):∃m:Nat,z % ((2 ^ n:Nat):Int)=(m:Int)∧m < 2 ^ n:=by
 have p:1≤2 ^ n:=Nat.one_le_two_pow
 have h0:=Int.emod_nonneg z (show((2 ^ n:Nat):Int)≠0 by omega)
 have h1:=Int.emod_lt_of_pos z (show(0:Int) < ((2 ^ n:Nat):Int) by omega)
 exact⟨(z % ((2 ^ n:Nat):Int)).toNat,by omega,by omega⟩
theorem yK(n:Nat):(0:Int) < ((2 ^ n:Nat):Int):=by
 have p:1≤2 ^ n:=Nat.one_le_two_pow
 omega
theorem Cz{n:Nat}(hn2:n≤100):gV ((2 ^ n:Nat):Int)=true:=by
 refine vi (yK n) ?_
 have p:2 ^ n≤2 ^ 100:=Nat.pow_le_pow_right (by decide) hn2
 have q:(2 ^ 100:Nat) < 2 ^ 200:=by decide
 have r:((2 ^ 200:Nat):Int)=2 ^ 200:=Int.natCast_pow 2 200
 rw[←r]
 omega
theorem At(ns:List Int)(E:List Sl)(h:E[0]? =some (.sh (.list (ns.map .int))))(a b c:Int)(ha:gV a=true)(hb:0 < b):eL (af jU false (af cZ false (af cw false (aj au (ab false (aa 0) (ab false (pC (.int 1)) ai))) (pC (.int a))) (pC (.int b))) (pC (.int c))) E=some (decide (ns.getD 1 0 / a % b=c),E):=by
 have l1:=fQ ns 1
 have v:aa 0 E=some (.sh (.list (ns.map .int)),E):=by simp only[aa,h]
 have c1:=aE (c:=au) (BR v (show pC (.int 1) E=some (.sh (.int 1),E)from rfl)) rfl l1
 exact pG (iC (f9 c1 (show pC (.int a) E=some (.sh (.int a),E)from rfl) ha) (show pC (.int b) E=some (.sh (.int b),E)from rfl) hb) (show pC (.int c) E=some (.sh (.int c),E)from rfl)
theorem Au{a b:gh}{E:List Sl}{x y:Bool}(h:a E=some (x,E))(k:b E=some (y,E)):nh a b E=some (x||y,E):=by
 cases x <;> simp only[nh,h,k,Z0,Bool.false_or,ca]
theorem yf{E:List Sl}{K:List (List Nat)}{w:List Nat}{i:Nat}{f:aO}(hf:f E=some (.sh (ae w),E))(hi:E[i]? =some (.ow (K.map ae)))(hl:K.length < 1000000):fk (dh i f) E=some (E.set i (.ow ((K++[w]).map ae)),.nx):=by
 have e:(K++[w]).map ae=K.map ae++[ae w]:=by rw[List.map_append];rfl
 rw[e]
 simp only[fk,dh,hf,Z0,hi,frz,dv,hl,if_true,Z1]
theorem pN(c:Nat)(l:List Nat)(h:c∉l):l.filter (fun k=> !decide (k=c))=l:=List.filter_eq_self.mpr fun k hk=>by
 have:k≠c:=fun e=>h (e▸hk)
 simp[this]
theorem pO(c:Nat):∀ps:List Str,(∀p∈ps,c∉p.cps.toList)→(Str.join ⟨#[c]⟩ ps).cps.toList.filter (fun k=> !decide (k=c))=(Str.join "" ps).cps.toList
 |[],_=>rfl
 |[p],h=>pN c _ (h p (Zaf.mpr rfl))
 |p::q::r,h=>by
  have ih:=pO c (q::r) fun a ha=>h a (fD _ ha)
  have e1:Str.join ⟨#[c]⟩ (p::q::r)=p++⟨#[c]⟩++Str.join ⟨#[c]⟩ (q::r):=rfl
  have e2:Str.join "" (p::q::r)=p++""++Str.join "" (q::r):=rfl
  have e3:("":Str).cps.toList=[]:=rfl
  rw[e1,e2]
  simp only[Str.cps_append,n3,List.filter_append,ih,pN c _ (h p (f_ ..)),e3]
  simp
theorem yg(x:Str)(c:Nat):(Txt.replace x ⟨#[c]⟩ "").cps.toList=x.cps.toList.filter fun k=> !decide (k=c):=by
 rw[StrLaws.replace_one,←pO c _ (StrLaws.split_free x c)]
 have j:Str.join ⟨#[c]⟩ (Txt.split x ⟨#[c]⟩)=x:=by first |exact StrLaws.join_split x ⟨#[c]⟩ rfl |exact StrLaws.join_split_one x c |exact StrLaws.join_split _ _ |simp
 rw[j]
theorem BT(v:List Nat)(a:Nat):Txt.replace ⟨v.toArray⟩ ⟨#[a]⟩ ""=⟨(v.filter fun k=> !decide (k=a)).toArray⟩:=by
 have h:=yg ⟨v.toArray⟩ a
 simp only at h
 cases e:Txt.replace ⟨v.toArray⟩ ⟨#[a]⟩ "" with
 |mk cps=>
  rw[e]at h
  simp only at h
  have:cps=(v.filter fun k=> !decide (k=a)).toArray:=by rw[←h]
  rw[this]
theorem Av(a:Nat):((⟨#[a]⟩:Str) == ("":Str))=false:=by
 refine beq_eq_false_iff_ne.mpr fun e=>?_
 have:=congrArg (fun s:Str=>s.cps.size) e
 cases this
theorem uf{W:List (List Nat)}{v:List Nat}(sv:v.Nodup)(h1:NhFam.cP W v)(h2:∀a∈v,¬NhFam.cP W (v.filter fun x=> !decide (x=a))):v.length≤W.length:=by
 have ex:∀a:Nat,a∈v→∃f,f∈W∧a∈f∧∀x∈f,x∈v→x=a:=fun a ha=>Classical.byContradiction fun c=>h2 a ha fun f hf=>by
  by_cases q:∃x,x∈f∧x∈v∧x≠a
  ·obtain⟨x,a1,a2,a3⟩:=q
   exact⟨x,a1,List.mem_filter.mpr ⟨a2,by simp[a3]⟩⟩
  ·obtain⟨x,hx,hv⟩:=h1 f hf
   have all:∀y∈f,y∈v→y=a:=fun y hy hyv=>Classical.byContradiction fun z=>q ⟨y,hy,hyv,z⟩
   exact absurd ⟨f,hf,(all x hx hv)▸hx,all⟩ c
 obtain⟨g,hg⟩:∃g:Nat→List Nat,∀a∈v,g a∈W∧a∈g a∧∀x∈g a,x∈v→x=a:=⟨fun a=>if h:a∈v then Classical.choose (ex a h)else [],fun a ha=>by
  have e:(if h:a∈v then Classical.choose (ex a h)else [])=Classical.choose (ex a ha):=dif_pos ha
  have k:=Classical.choose_spec (ex a ha)
  rw[←e]at k
  exact k⟩
 have nd:(v.map g).Nodup:=List.pairwise_map.mpr (sv.imp_of_mem fun {a b} ha hb n e=>n ((hg b hb).2.2 a (e▸(hg a ha).2.1) ha))
 have:=List.Nodup.length_le_of_subset nd (fun t ht=>by
  obtain⟨a,ha,rfl⟩:=List.mem_map.mp ht
  exact(hg a ha).1)
 rw[dv]at this
 exact this
theorem qR(F:List (List Nat)):(NhFam.aG F).length≤F.length:=by
 have h:∀(S K:List (List Nat)),(NhFam.fM K S).length≤K.length+S.length:=fun S=>by
  induction S with
  |nil=>intro K;exact dw _
  |cons w S ih=>
   intro K
   rw[NhFam.fM]
   split
   ·have:=ih K;simp;omega
   ·have:=ih (K++[w]);simp at this ⊢;omega
 have h1:=h (NhFam.ft F) []
 have h2:(NhFam.ft F).length=F.length:=(List.mergeSort_perm _ _).length_eq
 unfold NhFam.aG
 simp at h1
 omega
structure Twc (U:List Nat) (W H L:List (List Nat)):Prop where
 pm:am [.list (W.map ae)]=some (.ow (H.map ae))
 pl:aC [.list (W.map ae)]=some (.ow (L.map ae))
 ph:am [.list (H.map ae)]=some (.ow (L.map ae))
 pb:am [.list (L.map ae)]=some (.ow (H.map ae))
 hs:∀v∈H,NhFam.eO U v
 ls:∀v∈L,NhFam.eO U v
 hm:∀v∈H,NhFam.cP W v
 hl:∀v∈H,∀a∈v,¬NhFam.cP W (v.filter fun x=> !decide (x=a))
 hn:H.length≤1024
 ln:L.length≤12
theorem BU{U:List Nat}{W:List (List Nat)}(u:Uni U)(w:∀t∈W,NhFam.eO U t)(h12:W.length≤12)(h3:U.length≤6∨W.length≤3):∃H L,Twc U W H L:=by
 have tw:∀{F:List (List Nat)},(∀t∈F,NhFam.eO U t)→∀t∈F,t.length≤10:=fun h t ht=>u.short (h t ht)
 have wr:Wrt U W:=⟨fun t ht=>(w t ht).2,fun t ht=>by have:=tw w t ht;omega,by omega,by have:=kf (tw w);omega⟩
 have ss:=jD u w
 have pm:=eK u wr
 have tm:=fN u wr
 have pl:=g6 u wr
 rw[ss]at pm tm pl
 have tl:=NhFam.fu w
 have ll:=qR W
 generalize NhFam.jO W (aZ W.flatten)=H at pm tm
 generalize NhFam.aG W=L at pl tl ll
 have mm:NhFam.vB U (NhFam.cP W):=fun v w' _ _ l h f hf=>let ⟨x,a,b⟩:=h f hf;⟨x,a,l x b⟩
 have hl:∀v∈H,∀a∈v,¬NhFam.cP W (v.filter fun x=> !decide (x=a)):=fun v hv a ha n=>by
  have m:=(tm.mem v).mp hv
  have e:=m.2.2 _ ⟨m.1.1.filter _,fun x hx=>m.1.2 x (List.mem_filter.mp hx).1⟩ n fun x hx=>(List.mem_filter.mp hx).1
  rw[←e]at ha
  simp at ha
 have hm:∀v∈H,NhFam.cP W v:=fun v hv=>((tm.mem v).mp hv).2.1
 have hn:=pM u tm
 have wH:Wrt U H:=by
  refine⟨fun t ht=>(tm.sub t ht).2,fun t ht=>by have:=tw tm.sub t ht;omega,hn,?_⟩
  rcases h3 with h |h
  ·have c:=mO H (NhFam.jv U) (NhFam.gN tm.srt) fun v hv=>(NhFam.iU u.srt).mpr (tm.sub v hv)
   rw[NhFam.kR]at c
   have p:2 ^ U.length≤2 ^ 6:=Nat.pow_le_pow_right (by decide) h
   have:=kf (tw tm.sub)
   have:H.length≤64:=by omega
   omega
  ·have:=kf (W:=H) (k:=3) fun v hv=>by
    have:=uf (tm.sub v hv).1.nodup (hm v hv) (hl v hv)
    omega
   omega
 have wL:Wrt U L:=⟨fun t ht=>(tl.sub t ht).2,fun t ht=>by have:=tw tl.sub t ht;omega,by omega,by have:=kf (tw tl.sub);omega⟩
 have ph:=eK u wH
 have th:=fN u wH
 rw[jD u tm.sub]at ph th
 have pb:=eK u wL
 have tb:=fN u wL
 rw[jD u tl.sub]at pb tb
 have e1:NhFam.jO H (aZ H.flatten)=L:=th.uniq tl fun v hv=>by
  rw[NhFam.eU tm.sub]
  unfold NhFam.vE
  rw[tm.up_iff mm (NhFam.kQ u.srt),NhFam.eU w]
  unfold NhFam.vE
  rw[NhFam.tP u.srt hv]
  exact Classical.not_not
 have e2:NhFam.jO L (aZ L.flatten)=H:=tb.uniq tm fun v hv=>by
  rw[NhFam.eU tl.sub,NhFam.eU w]
  unfold NhFam.vE
  rw[tl.up_iff (NhFam.rR U W) (NhFam.kQ u.srt)]
 rw[e1]at ph
 rw[e2]at pb
 exact⟨H,L,pm,pl,ph,pb,tm.sub,tl.sub,hm,hl,hn,by omega⟩
theorem eu{α:Type}(f:α→Bool):∀l:List α,fq (l.map fun a=>PyData.bool (f a))=some (l.map f)
 |[]=>rfl
 |a::l=>by
  show(fq (l.map fun a=>PyData.bool (f a))).map (f a:: ·)=_
  rw[eu f l]
  rfl
theorem fS{α:Type}(f:α→Bool):∀l:List α,bx (l.map fun a=>PyData.bool (f a))=true
 |[]=>rfl
 |a::l=>by show(cE (.bool (f a))&&_)=true;rw[fS f l];rfl
theorem yh(w:List Nat)(a:Nat):b_ [.sh (.str ⟨#[a]⟩),.sh (ae w)]=some (.sh (.bool (decide (a∈w))),[.sh (.str ⟨#[a]⟩),.sh (ae w)]):=by
 have o:=rX w a
 simp only[b_,af,aa,ae,Z2,Sl.isBr,yD,fF,look,Sl.val,AI,Z0,Z3,o,Bool.not_not,Z1,ca]
theorem pP(w:List Nat):∀(v:List Nat) (x:Sl),bZ cJ aR b_ (v.map av) [x,.sh (ae w)]=some (v.map fun a=>PyData.bool (decide (a∈w)))
 |[],x=>rfl
 |a::v,x=>by
  have t:cJ (av a) [x,.sh (ae w)]=some [.sh (av a),.sh (ae w)]:=rfl
  exact fw t (yh w a) (pP w v _)
theorem i6(v w:List Nat)(hv:v.length≤1000):aU [ae v,ae w]=some (.sh (.bool (v.any fun a=>decide (a∈w)))):=by
 have it:bH (aa 0) [.sh (ae v),.sh (ae w)]=some (v.map av,[.sh (ae v),.sh (ae w)]):=by
  simp only[bH,aa,ae,Z2,frz,Z0,nV]
 have k:=eS (js:=[none,some 1]) it (pP w v .no) (fS _ v) (by rw[dv];omega)
 have bo:=eu (fun a=>decide (a∈w)) v
 have al:(v.map fun a=>decide (a∈w)).any id=v.any fun a=>decide (a∈w):=by rw[List.any_map];rfl
 have c:bJ xl (ab false (bd [none,some 1] (bH (aa 0)) cJ aR b_) ai) [.sh (ae v),.sh (ae w)]=some (.sh (.bool (v.any fun a=>decide (a∈w))),[.sh (ae v),.sh (ae w)]):=by
  simp only[bJ,yJ k,Z0,Z1,cy,PL.look,Sl.val,xl,bo,al]
 have g:aU [ae v,ae w]=(ee [.sh (ae v),.sh (ae w)]).bind fun a=>match a.2 with |.rt r=>cQ r |.nx=>some (.sh .none) |_=>none:=rfl
 rw[g,ee]
 simp only[bq,c,Z0,Z1,cQ,bY,cE,if_true]
def wf(W:List (List Nat))(v:List Nat):Bool:=W.all fun w=>v.any fun a=>decide (a∈w)
theorem allB_iff{W:List (List Nat)}{v:List Nat}:wf W v=true↔NhFam.cP W v:=by
 simp only[wf,NhFam.cP,List.all_eq_true,List.any_eq_true,decide_eq_true_eq]
 exact⟨fun h w hw=>let ⟨a,p,q⟩:=h w hw;⟨a,q,p⟩,fun h w hw=>let ⟨a,p,q⟩:=h w hw;⟨a,q,p⟩⟩
theorem all_map(W:List (List Nat))(v:List Nat):(W.map fun w=>v.any fun a=>decide (a∈w)).all id=wf W v:=by
 rw[List.all_map]
 rfl
theorem sf(v:List Nat)(hv:v.length≤1000):∀(W:List (List Nat)) (x:Sl),bZ cD aR bU (W.map ae) [x,.sh (ae v)]=some (W.map fun w=>PyData.bool (v.any fun a=>decide (a∈w)))
 |[],x=>rfl
 |w::W,x=>by
  have e:bU [.sh (ae w),.sh (ae v)]=some (.sh (.bool (v.any fun a=>decide (a∈w))),[.sh (ae w),.sh (ae v)]):=aE (ss:=[.sh (ae v),.sh (ae w)]) rfl rfl (i6 v w hv)
  exact fw (E1:=[.sh (ae w),.sh (ae v)]) rfl e (sf v hv W _)
theorem Aw(v w:List Nat)(hv:v.length≤1000)(a:Nat):jP 1 2 0 aU [.sh (ae w),.sh (ae v),.sh (.str ⟨#[a]⟩)]=some (.sh (.bool ((v.filter fun k=> !decide (k=a)).any fun b=>decide (b∈w))),[.sh (ae w),.sh (ae v),.sh (.str ⟨#[a]⟩)]):=by
 have lf:(v.filter fun k=> !decide (k=a)).length≤v.length:=List.length_filter_le _ _
 have p:=i6 (v.filter fun k=> !decide (k=a)) w (by omega)
 have l:(⟨v.toArray⟩:Str).length≤1000:=by rw[jB];exact hv
 show(if ((⟨#[a]⟩:Str) == ("":Str))=false∧(⟨v.toArray⟩:Str).length≤1000 then (aU [.str (Txt.replace ⟨v.toArray⟩ ⟨#[a]⟩ ""),ae w]).map fun r=>(r,_)else none)=_
 rw[if_pos ⟨Av a,l⟩,BT]
 show(aU [ae (v.filter fun k=> !decide (k=a)),ae w]).map _=_
 rw[p]
 rfl
theorem si(v:List Nat)(hv:v.length≤1000)(a:Nat):∀(W:List (List Nat)) (x:Sl),bZ (aF 0) aR (jP 1 2 0 aU) (W.map ae) [x,.sh (ae v),.sh (.str ⟨#[a]⟩)]=some (W.map fun w=>PyData.bool ((v.filter fun k=> !decide (k=a)).any fun b=>decide (b∈w)))
 |[],x=>rfl
 |w::W,x=>fw (E1:=[.sh (ae w),.sh (ae v),.sh (.str ⟨#[a]⟩)]) rfl (Aw v w hv a) (si v hv a W _)
theorem wg(v:List Nat)(hv:v.length≤1000)(W:List (List Nat))(hW:W.length≤1000)(a:Nat):aV [.sh (ae v),.sh (.list (W.map ae)),.sh (av a)]=some (wf W (v.filter fun k=> !decide (k=a)),[.sh (ae v),.sh (.list (W.map ae)),.sh (av a)]):=by
 have k:=eS (js:=[none,some 0,some 2]) (it:=gn (aa 1)) (c:=aR) (E:=[.sh (ae v),.sh (.list (W.map ae)),.sh (av a)]) rfl (si v hv a W .no) (fS _ W) (by rw[dv];omega)
 have bo:=eu (fun w=>(v.filter fun k=> !decide (k=a)).any fun b=>decide (b∈w)) W
 have al:=all_map W (v.filter fun k=> !decide (k=a))
 unfold aV
 simp only[eL,bJ,yJ k,Z0,Z1,cy,PL.look,Sl.val,jW,bo,al]
theorem mP(v:List Nat)(hv:v.length≤1000)(W:List (List Nat))(hW:W.length≤1000):∀(u:List Nat) (x:Sl),(∀a∈u,wf W (v.filter fun k=> !decide (k=a))=false)→∃y,bL (aF 2) (cF aV (bq (pC (.bool false))) bK) (u.map av) [.sh (ae v),.sh (.list (W.map ae)),x]=some ([.sh (ae v),.sh (.list (W.map ae)),y],.nx)
 |[],x,_=>⟨x,rfl⟩
 |a::u,x,h=>by
  obtain⟨y,e⟩:=mP v hv W hW u (.sh (av a)) fun b hb=>h b (fD _ hb)
  refine⟨y,?_⟩
  have c:=wg v hv W hW a
  rw[h a (f_ ..)]at c
  have st:(aF 2 (av a) [.sh (ae v),.sh (.list (W.map ae)),x]).bind (cF aV (bq (pC (.bool false))) bK)=some ([.sh (ae v),.sh (.list (W.map ae)),.sh (av a)],.nx):=by
   have tg:aF 2 (av a) [.sh (ae v),.sh (.list (W.map ae)),x]=some [.sh (ae v),.sh (.list (W.map ae)),.sh (av a)]:=rfl
   rw[tg,Option.bind_some]
   exact gg c rfl
  rw[c9,bL,st]
  exact e
theorem pQ(v:List Nat)(hv:v.length≤1000)(W:List (List Nat))(hW:W.length≤1000)(h1:NhFam.cP W v)(h2:∀a∈v,¬NhFam.cP W (v.filter fun x=> !decide (x=a))):aY [ae v,.list (W.map ae)]=some (.sh (.bool true)):=by
 have k:=eS (js:=[none,some 0]) (it:=bH (aa 1)) (c:=aR) (E:=[.sh (ae v),.sh (.list (W.map ae)),.no]) rfl (sf v hv W .no) (fS _ W) (by rw[dv];omega)
 have bo:=eu (fun w=>v.any fun a=>decide (a∈w)) W
 have al:=(all_map W v).trans (allB_iff.mpr h1)
 have c1:bS (dW (bJ jW (ab false (bd [none,some 0] (bH (aa 1)) cD aR bU) ai))) [.sh (ae v),.sh (.list (W.map ae)),.no]=some (false,[.sh (ae v),.sh (.list (W.map ae)),.no]):=by
  simp only[bS,dW,bJ,yJ k,Z0,Z1,cy,PL.look,Sl.val,jW,bo,al,gl,Bool.not_true]
 obtain⟨y,e⟩:=mP v hv W hW v .no fun a ha=>Bool.eq_false_iff.mpr fun z=>h2 a ha (allB_iff.mp z)
 have it:kU (aa 0) [.sh (ae v),.sh (.list (W.map ae)),.no]=some (v.map av,[.sh (ae v),.sh (.list (W.map ae)),.no]):=by
  show some (eH ⟨v.toArray⟩,_)=_
  rw[nV]
 have fo:de (kU (aa 0)) (aF 2) (cF aV (bq (pC (.bool false))) bK) [.sh (ae v),.sh (.list (W.map ae)),.no]=some ([.sh (ae v),.sh (.list (W.map ae)),y],.nx):=by
  unfold de
  rw[it,Option.bind_some]
  exact e
 have g:aY [ae v,.list (W.map ae)]=(cK [.sh (ae v),.sh (.list (W.map ae)),.no]).bind fun a=>match a.2 with |.rt r=>cQ r |.nx=>some (.sh .none) |_=>none:=rfl
 rw[g,cK,aK (gg (b:=bK) c1 rfl),aK fo]
 rfl
theorem BV{E:List Sl}{f g:aO}{ds:List PyData}{k:Int}{d:PyData}(hf:f E=some (.sh (.list ds),E))(hg:g E=some (.sh (.int k),E))(ha:atI ds k=some d):af sN false f g E=some (.sh d,E):=by
 simp only[af,hf,hg,Z0,sN,look,Sl.val,ha,Z1,gR,jc,ca]
theorem Ax(E:List Sl)(i:Nat)(w:List Nat)(h:E[i]? =some (.sh (ae w))):∃b,eL (af AG false (aa i) (pC (.str ""))) E=some (b,E):=by
 have v:aa i E=some (.sh (ae w),E):=by simp only[aa,h]
 refine⟨!decide ((⟨w.toArray⟩:Str)=""),?_⟩
 simp only[eL,af,AG,fF,v,pC,ae,Z0,look,Sl.val,Z1,xp,ca]
theorem qS{E:List Sl}{i:Nat}{ds:List PyData}(h:E[i]? =some (.sh (.list ds)))(hl:ds.length≤1000000):bJ eD (ab false (aa i) ai) E=some (.sh (.int (ds.length:Int)),E):=by
 have v:aa i E=some (.sh (.list ds),E):=by simp only[aa,h]
 simp only[bJ,ab,ai,v,Z0,Z1,cy,PL.look,Sl.val,eD,hl,ca]
theorem CA{E:List Sl}{f:aO}{x:Int}(hf:f E=some (.sh (.int x),E)):eL (af (fF (dE .lt)) false f (pC (.int 10))) E=some (decide (x < 10),E):=by
 simp only[eL,af,fF,hf,pC,Z0,look,Sl.val,dE,Cm.i,Z1,ca]
theorem wj{a b:gh}{E:List Sl}{x y:Bool}(h:a E=some (x,E))(k:b E=some (y,E)):rn a b E=some (x&&y,E):=by
 unfold rn
 rw[h]
 cases x
 ·rfl
 ·exact k
theorem sj(ns:List Int){U:List Nat}(cell r:Int)(x5 c d:Sl)(K:List (List Nat))(k:Nat)(hK:K.length≤1000)(hKs:∀t∈K,NhFam.eO U t)(v:List Nat)(hv:NhFam.eO U v):∃K':List (List Nat),K'.length≤K.length+1∧(∀t∈K',NhFam.eO U t)∧(cF (nh (eL (af AG false (aa 7) (pC (.str "")))) (eL (af jU false (af cZ false (af cw false (aj au (ab false (aa 0) (ab false (pC (.int 1)) ai))) (pC (.int 6))) (pC (.int 8))) (pC (.int 1))))) (fk (dh 2 (aa 7))) bK) [.sh (.list (ns.map .int)),.sh (.list (U.map av)),.ow (K.map ae),.sh (.int cell),.sh (.int r),x5,.sh (.int k),.sh (ae v),c,d]=some ([.sh (.list (ns.map .int)),.sh (.list (U.map av)),.ow (K'.map ae),.sh (.int cell),.sh (.int r),x5,.sh (.int k),.sh (ae v),c,d],.nx):=by
 obtain⟨b1,c1⟩:=Ax [.sh (.list (ns.map .int)),.sh (.list (U.map av)),.ow (K.map ae),.sh (.int cell),.sh (.int r),x5,.sh (.int k),.sh (ae v),c,d] 7 v rfl
 have c2:=At ns [.sh (.list (ns.map .int)),.sh (.list (U.map av)),.ow (K.map ae),.sh (.int cell),.sh (.int r),x5,.sh (.int k),.sh (ae v),c,d] rfl 6 8 1 (by decide) (by decide)
 have cc:=Au c1 c2
 generalize (b1||decide (ns.getD 1 0 / 6 % 8=1))=bb at cc
 cases bb with
 |true=>
  refine⟨K++[v],by simp,fun q hq=>?_,?_⟩
  ·rcases Zao.mp hq with z |z
   ·exact hKs q z
   ·rw[Zaf.mp z];exact hv
  ·exact gB cc (yf (E:=[.sh (.list (ns.map .int)),.sh (.list (U.map av)),.ow (K.map ae),.sh (.int cell),.sh (.int r),x5,.sh (.int k),.sh (ae v),c,d]) (K:=K) (w:=v) (i:=2) (f:=aa 7) rfl rfl (by omega))
 |false=>exact⟨K,by omega,hKs,gg cc rfl⟩
theorem Ay(U:List Nat)(z p:Int)(hp:gV p=true)(hU:1≤U.length)(hl:U.length≤1000):∃x∈U,cY [.sh (.int p),.sh (.list (U.map av)),.sh (.int z)]=some (.sh (av x),[.sh (.int p),.sh (.list (U.map av)),.sh (.int z)]):=by
 have le:=qS (E:=[.sh (.int p),.sh (.list (U.map av)),.sh (.int z)]) (i:=1) (ds:=U.map av) rfl (by rw[dv];omega)
 rw[dv]at le
 have md:=iC (f9 (E:=[.sh (.int p),.sh (.list (U.map av)),.sh (.int z)]) (f:=aa 2) (g:=aa 0) (x:=z) (y:=p) rfl rfl hp) le (by omega)
 have h0:=Int.emod_nonneg (z / p) (show(U.length:Int)≠0 by omega)
 have h1:=Int.emod_lt_of_pos (z / p) (show(0:Int) < (U.length:Int) by omega)
 obtain⟨j,ej⟩:∃j:Nat,z / p % (U.length:Int)=(j:Int):=⟨(z / p % (U.length:Int)).toNat,by omega⟩
 rw[ej]at md
 have hj:j < U.length:=by omega
 refine⟨U[j],List.getElem_mem hj,?_⟩
 have g:U[j]? =some U[j]:=pS hj
 have a:atI (U.map av) (j:Int)=some (av U[j]):=by rw[gq,qT,g];rfl
 exact BV (f:=aa 1) rfl md a
theorem pR(U:List Nat)(z:Int)(hU:1≤U.length)(hl:U.length≤1000):∀(ps:List Int) (x:Sl),(∀p∈ps,gV p=true)→∃P:List Nat,P.length=ps.length∧(∀a∈P,a∈U)∧bZ eJ aR cY (ps.map .int) [x,.sh (.list (U.map av)),.sh (.int z)]=some (P.map av)
 |[],x,_=>⟨[],rfl,fun _ h=>(by cases h),rfl⟩
 |p::ps,x,h=>by
  obtain⟨y,hy,e⟩:=Ay U z p (h p (f_ ..)) hU hl
  obtain⟨P,lp,hp,ih⟩:=pR U z hU hl ps (.sh (.int p)) fun q hq=>h q (fD _ hq)
  refine⟨y::P,by simp[lp],fun a ha=>?_,?_⟩
  ·rcases Zap.mp ha with q |q
   ·rw[q];exact hy
   ·exact hp a q
  ·exact fw (E1:=[.sh (.int p),.sh (.list (U.map av)),.sh (.int z)]) rfl e ih
theorem Az(ns:List Int){U:List Nat}(u:Uni U)(hU:1≤U.length)(cell aA:Int)(x5 a b c d:Sl)(K:List (List Nat))(k:Nat)(hk:k≤1000)(hK:K.length≤1000)(hKs:∀t∈K,NhFam.eO U t):
  ∃(K':List (List Nat)) (r:Int) (b' c' d':Sl),K'.length≤K.length+1∧(∀t∈K',NhFam.eO U t)∧(bP (.int k) [.sh (.list (ns.map .int)),.sh (.list (U.map av)),.ow (K.map ae),.sh (.int cell),.sh (.int aA),x5,a,b,c,d]).bind bu=some ([.sh (.list (ns.map .int)),.sh (.list (U.map av)),.ow (K'.map ae),.sh (.int cell),.sh (.int r),x5,.sh (.int k),b',c',d'],.nx):=by
 have tg:bP (.int k) [.sh (.list (ns.map .int)),.sh (.list (U.map av)),.ow (K.map ae),.sh (.int cell),.sh (.int aA),x5,a,b,c,d]=some [.sh (.list (ns.map .int)),.sh (.list (U.map av)),.ow (K.map ae),.sh (.int cell),.sh (.int aA),x5,.sh (.int k),b,c,d]:=rfl
 have lu:=u.len
 have le:∀{E:List Sl},E[1]? =some (.sh (.list (U.map av)))→(bJ eD (ab false (aa 1) ai)) E=some (.sh (.int (U.length:Int)),E):=fun {E} h=>by
  have:=qS h (by rw[dv];omega)
  rw[dv]at this
  exact this
 obtain⟨b2,t2⟩:=uc (E:=[.sh (.list (ns.map .int)),.sh (.list (U.map av)),.ow (K.map ae),.sh (.int cell),.sh (.int aA),x5,.sh (.int k),b,c,d]) (i:=3) (c:=cell) rfl
 have cond:=wj (CA (le (E:=[.sh (.list (ns.map .int)),.sh (.list (U.map av)),.ow (K.map ae),.sh (.int cell),.sh (.int aA),x5,.sh (.int k),b,c,d]) rfl)) t2
 generalize (decide ((U.length:Int) < 10)&&b2)=bb at cond
 cases bb with
 |true=>
  obtain⟨m,em,lm⟩:=BS (n:=U.length) aA
  have sh1:=wb (E:=[.sh (.list (ns.map .int)),.sh (.list (U.map av)),.ow (K.map ae),.sh (.int cell),.sh (.int aA),x5,.sh (.int k),b,c,d]) (f:=pC (.int 1)) (y:=U.length) rfl (le rfl) (by omega)
  have v1:=iC (f:=aa 4) (x:=aA) (E:=[.sh (.list (ns.map .int)),.sh (.list (U.map av)),.ow (K.map ae),.sh (.int cell),.sh (.int aA),x5,.sh (.int k),b,c,d]) rfl sh1 (yK _)
  rw[em]at v1
  have cs:=aE (c:=c8) (BR v1 (show aa 1 [.sh (.list (ns.map .int)),.sh (.list (U.map av)),.ow (K.map ae),.sh (.int cell),.sh (.int aA),x5,.sh (.int k),b,c,d]=some (.sh (.list (U.map av)),[.sh (.list (ns.map .int)),.sh (.list (U.map av)),.ow (K.map ae),.sh (.int cell),.sh (.int aA),x5,.sh (.int k),b,c,d])from rfl)) rfl (qQ U m (by omega))
  have s1:=dQ (i:=7) cs (show 7 < 10 by decide)
  have sh2:=wb (E:=[.sh (.list (ns.map .int)),.sh (.list (U.map av)),.ow (K.map ae),.sh (.int cell),.sh (.int aA),x5,.sh (.int k),.sh (ae (NhFam.gi U m)),c,d]) (f:=pC (.int 1)) (y:=U.length) rfl (le rfl) (by omega)
  have v2:=f9 (f:=aa 4) (x:=aA) (E:=[.sh (.list (ns.map .int)),.sh (.list (U.map av)),.ow (K.map ae),.sh (.int cell),.sh (.int aA),x5,.sh (.int k),.sh (ae (NhFam.gi U m)),c,d]) rfl sh2 (Cz (by omega))
  have s2:=dQ (i:=4) v2 (show 4 < 10 by decide)
  obtain⟨K',l,hm,e⟩:=sj ns cell (aA / ((2 ^ U.length:Nat):Int)) x5 c d K k hK hKs (NhFam.gi U m) (NhFam.vG u.srt m)
  refine⟨K',aA / ((2 ^ U.length:Nat):Int),.sh (ae (NhFam.gi U m)),c,d,l,hm,?_⟩
  rw[tg,Option.bind_some,bu,aK (gB cond ((aK s1).trans s2))]
  exact e
 |false=>
  have a1:=iY (E:=[.sh (.list (ns.map .int)),.sh (.list (U.map av)),.ow (K.map ae),.sh (.int cell),.sh (.int aA),x5,.sh (.int k),b,c,d]) (g:=pC (.int 3)) (f:=aa 6) (x:=3) (y:=k) rfl rfl
  have ei:(3:Int)+(k:Int)=((3+k:Nat):Int):=by omega
  rw[ei]at a1
  have c1:=aE (c:=au) (BR (show aa 0 [.sh (.list (ns.map .int)),.sh (.list (U.map av)),.ow (K.map ae),.sh (.int cell),.sh (.int aA),x5,.sh (.int k),b,c,d]=some (.sh (.list (ns.map .int)),[.sh (.list (ns.map .int)),.sh (.list (U.map av)),.ow (K.map ae),.sh (.int cell),.sh (.int aA),x5,.sh (.int k),b,c,d])from rfl) a1) rfl (fQ ns (3+k))
  obtain⟨z,ez⟩:=pF (ns.getD (3+k) 0) (k:Int) (by omega) (by omega)
  have c2:=aE (c:=cb) (BR c1 (show aa 6 [.sh (.list (ns.map .int)),.sh (.list (U.map av)),.ow (K.map ae),.sh (.int cell),.sh (.int aA),x5,.sh (.int k),b,c,d]=some (.sh (.int k),[.sh (.list (ns.map .int)),.sh (.list (U.map av)),.ow (K.map ae),.sh (.int cell),.sh (.int aA),x5,.sh (.int k),b,c,d])from rfl)) rfl ez
  have s1:=dQ (i:=8) c2 (show 8 < 10 by decide)
  obtain⟨P,lp,hp,pp⟩:=pR U z hU (by omega) [1,11,131,1009] .no (by decide)
  have it:bH (xb (fG (pC (.int 1)) (fG (pC (.int 11)) (fG (pC (.int 131)) (fG (pC (.int 1009)) gS))))) [.sh (.list (ns.map .int)),.sh (.list (U.map av)),.ow (K.map ae),.sh (.int cell),.sh (.int aA),x5,.sh (.int k),b,.sh (.int z),d]=some (([1,11,131,1009]:List Int).map .int,[.sh (.list (ns.map .int)),.sh (.list (U.map av)),.ow (K.map ae),.sh (.int cell),.sh (.int aA),x5,.sh (.int k),b,.sh (.int z),d]):=by
   simp only[bH,xb,fG,pC,frz,gS,Z1,Z0,Z4,Z5,Nat.reduceAdd,Nat.reduceLeDiff,c9,lU,ca]
  have c3:=eS (js:=[none,some 1,some 8]) (c:=aR) it pp (gC P) (by rw[dv,lp];decide)
  have s2:=jC (i:=9) c3 (show 9 < 10 by decide)
  have g0:=Int.emod_nonneg (z / 10007) (show(3:Int)≠0 by decide)
  have g1:=Int.emod_lt_of_pos (z / 10007) (show(0:Int) < 3 by decide)
  obtain⟨j,ej⟩:∃j:Nat,2+z / 10007 % 3=(j:Int):=⟨(2+z / 10007 % 3).toNat,by omega⟩
  have hj:=iY (E:=[.sh (.list (ns.map .int)),.sh (.list (U.map av)),.ow (K.map ae),.sh (.int cell),.sh (.int aA),x5,.sh (.int k),b,.sh (.int z),.ow (P.map av)]) (g:=pC (.int 2)) (x:=2) rfl (iC (f9 (E:=[.sh (.list (ns.map .int)),.sh (.list (U.map av)),.ow (K.map ae),.sh (.int cell),.sh (.int aA),x5,.sh (.int k),b,.sh (.int z),.ow (P.map av)]) (f:=aa 8) (g:=pC (.int 10007)) (x:=z) (y:=10007) rfl rfl (by decide)) (show pC (.int 3) [.sh (.list (ns.map .int)),.sh (.list (U.map av)),.ow (K.map ae),.sh (.int cell),.sh (.int aA),x5,.sh (.int k),b,.sh (.int z),.ow (P.map av)]=some (.sh (.int 3),[.sh (.list (ns.map .int)),.sh (.list (U.map av)),.ow (K.map ae),.sh (.int cell),.sh (.int aA),x5,.sh (.int k),b,.sh (.int z),.ow (P.map av)])from rfl) (by decide))
  rw[ej]at hj
  have aP:∀y∈P.take j,az y:=fun y hy=>u.lt y (hp y (List.mem_of_mem_take hy))
  have cu:(oS false (aa 9) jK (jL (af dC false (pC (.int 2)) (af cZ false (af cw false (aa 8) (pC (.int 10007))) (pC (.int 3)))))) [.sh (.list (ns.map .int)),.sh (.list (U.map av)),.ow (K.map ae),.sh (.int cell),.sh (.int aA),x5,.sh (.int k),b,.sh (.int z),.ow (P.map av)]=some (.ow ((P.take j).map av),[.sh (.list (ns.map .int)),.sh (.list (U.map av)),.ow (K.map ae),.sh (.int cell),.sh (.int aA),x5,.sh (.int k),b,.sh (.int z),.ow (P.map av)]):=by
   have cm:qf (P.map av) none (some (j:Int))=(P.take j).map av:=by
    rw[uZ]
    rw[sT P (Int.natCast_nonneg j),Int.toNat_natCast]
   generalize (af dC false (pC (.int 2)) (af cZ false (af cw false (aa 8) (pC (.int 10007))) (pC (.int 3))))=f at hj ⊢
   have fl:=gC (P.take j)
   simp only[oS,aa,jK,jL,hj,Z0,Z1,look,Sl.val,Z3,Z2,cm,fl,Bool.or_true,ca]
  have d1:=lg (w:=P.take j) fun y hy=>iz (aP y hy)
  have lt:(P.take j).length≤4:=by rw[List.length_take,lp];exact Nat.min_le_right _ _
  have d2:((P.take j).map df).length < 4000∧(gv ((P.take j).map df)).length < 64:=⟨by rw[dv];omega,sm (rY fun y hy=>iz (aP y hy)) (by decide)⟩
  have so:dY (oS false (aa 9) jK (jL (af dC false (pC (.int 2)) (af cZ false (af cw false (aa 8) (pC (.int 10007))) (pC (.int 3)))))) [.sh (.list (ns.map .int)),.sh (.list (U.map av)),.ow (K.map ae),.sh (.int cell),.sh (.int aA),x5,.sh (.int k),b,.sh (.int z),.ow (P.map av)]=some (.ow (((aZ (P.take j)).map df).map PyData.str),[.sh (.list (ns.map .int)),.sh (.list (U.map av)),.ow (K.map ae),.sh (.int cell),.sh (.int aA),x5,.sh (.int k),b,.sh (.int z),.ow (P.map av)]):=by
   generalize (oS false (aa 9) jK (jL (af dC false (pC (.int 2)) (af cZ false (af cw false (aa 8) (pC (.int 10007))) (pC (.int 3))))))=f at cu ⊢
   unfold dY
   simp only[cu,Z0,look,Sl.val,lh]
   rw[if_pos d2,d1]
  have jo:fJ "" (dY (oS false (aa 9) jK (jL (af dC false (pC (.int 2)) (af cZ false (af cw false (aa 8) (pC (.int 10007))) (pC (.int 3))))))) [.sh (.list (ns.map .int)),.sh (.list (U.map av)),.ow (K.map ae),.sh (.int cell),.sh (.int aA),x5,.sh (.int k),b,.sh (.int z),.ow (P.map av)]=some (.sh (ae (aZ (P.take j))),[.sh (.list (ns.map .int)),.sh (.list (U.map av)),.ow (K.map ae),.sh (.int cell),.sh (.int aA),x5,.sh (.int k),b,.sh (.int z),.ow (P.map av)]):=by
   have l:=nW (aZ (P.take j))
   have l2:=mJ (P.take j)
   generalize dY (oS false (aa 9) jK (jL (af dC false (pC (.int 2)) (af cZ false (af cw false (aa 8) (pC (.int 10007))) (pC (.int 3))))))=f at so ⊢
   simp only[fJ,lD,so,Z0,look,Sl.val,ma,lj,l,l2,if_true,Z1,lq]
   rfl
  have s3:=dQ (i:=7) jo (show 7 < 10 by decide)
  have hv:NhFam.eO U (aZ (P.take j)):=⟨fR _,fun x hx=>hp x (List.mem_of_mem_take (inOrd_mem.mp hx).2)⟩
  obtain⟨K',l,hm,e⟩:=sj ns cell aA x5 (.sh (.int z)) (.ow (P.map av)) K k hK hKs (aZ (P.take j)) hv
  refine⟨K',aA,.sh (ae (aZ (P.take j))),.sh (.int z),.ow (P.map av),l,hm,?_⟩
  rw[tg,Option.bind_some,bu,aK (gg cond ((aK s1).trans ((aK s2).trans s3)))]
  exact e
theorem wk(ns:List Int){U:List Nat}(u:Uni U)(hU:1≤U.length)(cell:Int)(x5:Sl):∀(n lo:Nat) (aA:Int) (a b c d:Sl) (K:List (List Nat)),lo+n≤1000→K.length+n≤1000→(∀t∈K,NhFam.eO U t)→
  ∃(M:List (List Nat)) (r:Int) (a' b' c' d':Sl),M.length≤K.length+n∧(∀t∈M,NhFam.eO U t)∧bL bP bu (iN lo n) [.sh (.list (ns.map .int)),.sh (.list (U.map av)),.ow (K.map ae),.sh (.int cell),.sh (.int aA),x5,a,b,c,d]=some ([.sh (.list (ns.map .int)),.sh (.list (U.map av)),.ow (M.map ae),.sh (.int cell),.sh (.int r),x5,a',b',c',d'],.nx)
 | 0,lo,aA,a,b,c,d,K,_,_,hK=>⟨K,aA,a,b,c,d,by simp,hK,rfl⟩
 |n+1,lo,aA,a,b,c,d,K,h1,h2,hK=>by
  obtain⟨K',r,b1,c1,d1,lk,hk',st⟩:=Az ns u hU cell aA x5 a b c d K lo (by omega) (by omega) hK
  obtain⟨M,r',a',b',c',d',l,hM,e⟩:=wk ns u hU cell x5 n (lo+1) r (.sh (.int lo)) b1 c1 d1 K' (by omega) (by omega) hk'
  refine⟨M,r',a',b',c',d',by omega,hM,?_⟩
  rw[show((lo+1:Nat):Int)=(lo:Int)+1 by omega]at e
  rw[jj,bL,st]
  exact e
theorem lS(ns:List Int){U:List Nat}(u:Uni U)(hU:1≤U.length):∃W:List (List Nat),W.length≤12∧(U.length≤6∨W.length≤3)∧(∀t∈W,NhFam.eO U t)∧bE [.list (ns.map .int),.list (U.map av)]=some (.ow (W.map ae)):=by
 have h0:=Int.emod_nonneg (ns.getD 2 0 / 2) (show(13:Int)≠0 by decide)
 have h1:=Int.emod_lt_of_pos (ns.getD 2 0 / 2) (show(0:Int) < 13 by decide)
 generalize ec:ns.getD 2 0=cell at h0 h1
 obtain⟨c0,hc0⟩:∃c:Nat,cell / 2 % 13=(c:Int):=⟨(cell / 2 % 13).toNat,by omega⟩
 have lat:=fQ ns 2
 rw[ec]at lat
 have lu:=u.len
 have s1:aL 2 (h8 gS) [.sh (.list (ns.map .int)),.sh (.list (U.map av)),.no,.no,.no,.no,.no,.no,.no,.no]=some ([.sh (.list (ns.map .int)),.sh (.list (U.map av)),.ow [],.no,.no,.no,.no,.no,.no,.no],.nx):=by simp only[aL,h8,gS,Z0,Z5,Nat.reduceLeDiff,PL.settle,frz,frzAll,Z4,Nat.reduceAdd,Nat.reduceLT,Z7,Z6,ca]
 have c2:aj au (ab false (aa 0) (ab false (pC (.int 2)) ai)) [.sh (.list (ns.map .int)),.sh (.list (U.map av)),.ow [],.no,.no,.no,.no,.no,.no,.no]=some (.sh (.int cell),[.sh (.list (ns.map .int)),.sh (.list (U.map av)),.ow [],.no,.no,.no,.no,.no,.no,.no]):=aE (ss:=[.sh (.list (ns.map .int)),.sh (.int 2)]) rfl rfl lat
 have s2:aL 3 (aj au (ab false (aa 0) (ab false (pC (.int 2)) ai))) [.sh (.list (ns.map .int)),.sh (.list (U.map av)),.ow [],.no,.no,.no,.no,.no,.no,.no]=some ([.sh (.list (ns.map .int)),.sh (.list (U.map av)),.ow [],.sh (.int cell),.no,.no,.no,.no,.no,.no],.nx):=dQ c2 (show 3 < 10 by decide)
 have d3:=f9 (E:=[.sh (.list (ns.map .int)),.sh (.list (U.map av)),.ow [],.sh (.int cell),.no,.no,.no,.no,.no,.no]) (f:=aa 3) (g:=pC (.int 26)) (x:=cell) (y:=26) rfl rfl (by decide)
 have s3:aL 4 (af cw false (aa 3) (pC (.int 26))) [.sh (.list (ns.map .int)),.sh (.list (U.map av)),.ow [],.sh (.int cell),.no,.no,.no,.no,.no,.no]=some ([.sh (.list (ns.map .int)),.sh (.list (U.map av)),.ow [],.sh (.int cell),.sh (.int (cell / 26)),.no,.no,.no,.no,.no],.nx):=dQ d3 (show 4 < 10 by decide)
 have d4:=iC (f9 (E:=[.sh (.list (ns.map .int)),.sh (.list (U.map av)),.ow [],.sh (.int cell),.sh (.int (cell / 26)),.no,.no,.no,.no,.no]) (f:=aa 3) (g:=pC (.int 2)) (x:=cell) (y:=2) rfl rfl (by decide)) (show pC (.int 13) [.sh (.list (ns.map .int)),.sh (.list (U.map av)),.ow [],.sh (.int cell),.sh (.int (cell / 26)),.no,.no,.no,.no,.no]=some (.sh (.int 13),_)from rfl) (by decide)
 rw[hc0]at d4
 have s4:aL 5 (af cZ false (af cw false (aa 3) (pC (.int 2))) (pC (.int 13))) [.sh (.list (ns.map .int)),.sh (.list (U.map av)),.ow [],.sh (.int cell),.sh (.int (cell / 26)),.no,.no,.no,.no,.no]=some ([.sh (.list (ns.map .int)),.sh (.list (U.map av)),.ow [],.sh (.int cell),.sh (.int (cell / 26)),.sh (.int c0),.no,.no,.no,.no],.nx):=dQ d4 (show 5 < 10 by decide)
 have le:=qS (E:=[.sh (.list (ns.map .int)),.sh (.list (U.map av)),.ow [],.sh (.int cell),.sh (.int (cell / 26)),.sh (.int c0),.no,.no,.no,.no]) (i:=1) (ds:=U.map av) rfl (by rw[dv];omega)
 rw[dv]at le
 obtain⟨c,hc,h3,s5⟩:∃c:Nat,c≤12∧(U.length≤6∨c≤3)∧cF (eL (af (fF (dE .gt)) false (bJ eD (ab false (aa 1) ai)) (pC (.int 6)))) (aL 5 (bJ sP (ab false (aa 5) (ab false (pC (.int 3)) ai)))) bK [.sh (.list (ns.map .int)),.sh (.list (U.map av)),.ow [],.sh (.int cell),.sh (.int (cell / 26)),.sh (.int c0),.no,.no,.no,.no]=some ([.sh (.list (ns.map .int)),.sh (.list (U.map av)),.ow [],.sh (.int cell),.sh (.int (cell / 26)),.sh (.int c),.no,.no,.no,.no],.nx):=by
  have q:eL (af (fF (dE .gt)) false (bJ eD (ab false (aa 1) ai)) (pC (.int 6))) [.sh (.list (ns.map .int)),.sh (.list (U.map av)),.ow [],.sh (.int cell),.sh (.int (cell / 26)),.sh (.int c0),.no,.no,.no,.no]=some (decide ((U.length:Int) > 6),[.sh (.list (ns.map .int)),.sh (.list (U.map av)),.ow [],.sh (.int cell),.sh (.int (cell / 26)),.sh (.int c0),.no,.no,.no,.no]):=by
   generalize (bJ eD (ab false (aa 1) ai))=f at le ⊢
   simp only[eL,af,fF,le,pC,Z0,look,Sl.val,dE,Cm.i,Z1,ca]
  by_cases g:(U.length:Int) > 6
  ·rw[decide_eq_true g]at q
   refine⟨min c0 3,by omega,.inr (by omega),gB q ?_⟩
   have mi:bJ sP (ab false (aa 5) (ab false (pC (.int 3)) ai)) [.sh (.list (ns.map .int)),.sh (.list (U.map av)),.ow [],.sh (.int cell),.sh (.int (cell / 26)),.sh (.int c0),.no,.no,.no,.no]=some (.sh (.int ((min c0 3:Nat):Int)),[.sh (.list (ns.map .int)),.sh (.list (U.map av)),.ow [],.sh (.int cell),.sh (.int (cell / 26)),.sh (.int c0),.no,.no,.no,.no]):=by
    have e:((min c0 3:Nat):Int)=if (3:Int) < (c0:Int)then 3 else (c0:Int):=by split <;> omega
    rw[e]
    simp only[bJ,ab,aa,Z3,Z2,Sl.isBr,pC,ai,Z1,Z0,sP,cy,look,Sl.val,ca]
   exact dQ mi (show 5 < 10 by decide)
  ·rw[decide_eq_false g]at q
   exact⟨c0,by omega,.inl (by omega),gg q rfl⟩
 obtain⟨M,r,a,b,c',d',l,hM,e⟩:=wk ns u hU cell (.sh (.int c)) c 0 (cell / 26) .no .no .no .no [] (by omega) (by simp;omega) (fun m hm=>by cases hm)
 simp at l
 refine⟨M,by omega,by omega,hM,?_⟩
 have it:=Ar (E:=[.sh (.list (ns.map .int)),.sh (.list (U.map av)),.ow [],.sh (.int cell),.sh (.int (cell / 26)),.sh (.int c),.no,.no,.no,.no]) (f:=aa 5) (z:=(c:Int)) (c:=c) rfl rfl (by omega)
 have fo:de (eG (ab false (aa 5) ai)) bP bu [.sh (.list (ns.map .int)),.sh (.list (U.map av)),.ow [],.sh (.int cell),.sh (.int (cell / 26)),.sh (.int c),.no,.no,.no,.no]=some ([.sh (.list (ns.map .int)),.sh (.list (U.map av)),.ow (M.map ae),.sh (.int cell),.sh (.int r),.sh (.int c),a,b,c',d'],.nx):=by
  unfold de
  rw[it,Option.bind_some]
  exact e
 have g:bE [.list (ns.map .int),.list (U.map av)]=(dr [.sh (.list (ns.map .int)),.sh (.list (U.map av)),.no,.no,.no,.no,.no,.no,.no,.no]).bind fun a=>match a.2 with |.rt r=>cQ r |.nx=>some (.sh .none) |_=>none:=rfl
 have fl:=du M
 rw[g,dr,aK s1,aK s2,aK s3,aK s4,aK s5,aK fo]
 simp only[bq,aa,Z3,Z2,Z0,Z7,Z6,Z1,cQ,bY,fl,if_true]
theorem sk{E:List Sl}{ds:List PyData}{f g:aO}{s1 s2:Sl}(hf:f E=some (s1,E))(hg:g E=some (s2,E))(l1:look E s1=some (.list ds))(l2:look E s2=some (.list ds))(h:w_ (.list ds) (.list ds)=some true):af jU false f g E=some (.sh (.bool true),E):=by
 simp only[af,jU,fF,hf,hg,Z0,l1,l2,h,Z1,ca]
theorem yL{f:aO}{E:List Sl}{x k:Int}{a b:cR}{r:Option (List Sl×Fl)}(hf:f E=some (.sh (.int x),E))(h:(x=k∧a E=r)∨(x≠k∧b E=r)):cF (eL (af jU false f (pC (.int k)))) a b E=r:=by
 have c:eL (af jU false f (pC (.int k))) E=some (decide (x=k),E):=pG hf rfl
 rcases h with⟨h,k⟩ |⟨h,k⟩
 ·rw[decide_eq_true h]at c;exact gB c k
 ·rw[decide_eq_false h]at c;exact gg c k
theorem AA{E:List Sl}{i:Nat}{ds:List PyData}(h:E[i]? =some (.sh (.list ds)))(hl:ds.length≤1000000):c7 (aa i) E=some (.ow ds,E):=by
 have v:aa i E=some (.sh (.list ds),E):=by simp only[aa,h]
 simp only[c7,aa,h,look,Sl.val,gR,jc,Z0,ca]
theorem wl:∀(F:List (List Nat)) (x:Sl),bZ gy aR fb (F.map ae) [x]=some (F.map fun _=>PyData.bool true)
 |[],x=>rfl
 |w::F,x=>by
  have e:fb [.sh (ae w)]=some (.sh (.bool true),[.sh (ae w)]):=by
   unfold ae
   simp only[fb,lD,aa,Z2,look,Sl.val,kz,Ty.is,yC,Z1,Z0]
  exact fw (E1:=[.sh (ae w)]) rfl e (wl F _)
theorem yM(s0 s1 s2 s4 s6:Sl){W:List (List Nat)}(hW:W.length≤1000):∀(F:List (List Nat)) (x:Sl),(∀v∈F,v.length≤1000∧NhFam.cP W v∧∀a∈v,¬NhFam.cP W (v.filter fun x=> !decide (x=a)))→∃y,bL fO fP (F.map ae) [s0,s1,s2,.ow (W.map ae),s4,x,s6]=some ([s0,s1,s2,.ow (W.map ae),s4,y,s6],.nx)
 |[],x,_=>⟨x,rfl⟩
 |v::F,x,h=>by
  obtain⟨h1,h2,h3⟩:=h v (f_ ..)
  obtain⟨y,e⟩:=yM s0 s1 s2 s4 s6 hW F (.sh (ae v)) fun w hw=>h w (fD _ hw)
  refine⟨y,?_⟩
  have c:aj aY (ab false (aa 5) (ab false (aa 3) ai)) [s0,s1,s2,.ow (W.map ae),s4,.sh (ae v),s6]=some (.sh (.bool true),[s0,s1,s2,.ow (W.map ae),s4,.sh (ae v),s6]):=aE (ss:=[.sh (ae v),.al 3]) rfl rfl (pQ v h1 W hW h2 h3)
  have t1:bS (dW (aj aY (ab false (aa 5) (ab false (aa 3) ai)))) [s0,s1,s2,.ow (W.map ae),s4,.sh (ae v),s6]=some (false,[s0,s1,s2,.ow (W.map ae),s4,.sh (ae v),s6]):=by
   simp only[bS,dW,c,Z0,look,Sl.val,gl,Z1,Bool.not_true]
  have st:(fO (ae v) [s0,s1,s2,.ow (W.map ae),s4,x,s6]).bind fP=some ([s0,s1,s2,.ow (W.map ae),s4,.sh (ae v),s6],.nx):=by
   have tg:fO (ae v) [s0,s1,s2,.ow (W.map ae),s4,x,s6]=some [s0,s1,s2,.ow (W.map ae),s4,.sh (ae v),s6]:=rfl
   rw[tg,Option.bind_some,fP]
   exact gg t1 rfl
  rw[c9,bL,st]
  exact e
theorem AB(ns:List Int)(hns:ns.length≤63):ir [.list (ns.map .int)]=some (.sh (.bool true)):=by
 have a0:=fQ ns 0
 have a1:=fQ ns 1
 simp only[Int.natCast_zero]at a0
 have a1:au [.list (ns.map .int),.int 1]=some (.sh (.int (ns.getD 1 0))):=a1
 generalize hz:ns.getD 1 0=z at a1
 have m0:=Int.emod_nonneg z (show(6:Int)≠0 by decide)
 have m1:=Int.emod_lt_of_pos z (show(0:Int) < 6 by decide)
 generalize hsc:PyData.list (ns.map .int)=sc at a0 a1
 have k1:aL 1 (af dC false (pC (.int 1)) (af cZ false (aj au (ab false (aa 0) (ab false (pC (.int 1)) ai))) (pC (.int 6)))) [.sh sc,.no,.no,.no,.no,.no,.no]=some ([.sh sc,.sh (.int (1+z % 6)),.no,.no,.no,.no,.no],.nx):=by
  have c:(aj au (ab false (aa 0) (ab false (pC (.int 1)) ai))) [.sh sc,.no,.no,.no,.no,.no,.no]=some (.sh (.int z),[.sh sc,.no,.no,.no,.no,.no,.no]):=aE (ss:=[.sh sc,.sh (.int 1)]) rfl rfl a1
  have c2:af dC false (pC (.int 1)) (af cZ false (aj au (ab false (aa 0) (ab false (pC (.int 1)) ai))) (pC (.int 6))) [.sh sc,.no,.no,.no,.no,.no,.no]=some (.sh (.int (1+z % 6)),[.sh sc,.no,.no,.no,.no,.no,.no]):=iY rfl (iC c rfl (by decide))
  exact dQ c2 (show 1 < 7 by decide)
 obtain⟨many,k2,n1,n2⟩:∃many:Nat,(cF (eL (af jU false (af cZ false (af cw false (aj au (ab false (aa 0) (ab false (pC (.int 1)) ai))) (pC (.int 48))) (pC (.int 8))) (pC (.int 5)))) (aL 1 (pC (.int 10))) bK) [.sh sc,.sh (.int (1+z % 6)),.no,.no,.no,.no,.no]=some ([.sh sc,.sh (.int many),.no,.no,.no,.no,.no],.nx)∧1≤many∧many≤10:=by
  have c:(aj au (ab false (aa 0) (ab false (pC (.int 1)) ai))) [.sh sc,.sh (.int (1+z % 6)),.no,.no,.no,.no,.no]=some (.sh (.int z),[.sh sc,.sh (.int (1+z % 6)),.no,.no,.no,.no,.no]):=aE (ss:=[.sh sc,.sh (.int 1)]) rfl rfl a1
  have cm:=iC (f9 c (show pC (.int 48) [.sh sc,.sh (.int (1+z % 6)),.no,.no,.no,.no,.no]=some (.sh (.int 48),[.sh sc,.sh (.int (1+z % 6)),.no,.no,.no,.no,.no])from rfl) (by decide)) (show pC (.int 8) [.sh sc,.sh (.int (1+z % 6)),.no,.no,.no,.no,.no]=some (.sh (.int 8),[.sh sc,.sh (.int (1+z % 6)),.no,.no,.no,.no,.no])from rfl) (by decide)
  by_cases h:z / 48 % 8=5
  ·exact⟨10,yL cm (.inl ⟨h,rfl⟩),by decide,by decide⟩
  ·exact⟨(1+z % 6).toNat,yL cm (.inr ⟨h,by rw[show(((1+z % 6).toNat:Nat):Int)=1+z % 6 by omega];rfl⟩),by omega,by omega⟩
 obtain⟨w,ew,lw,aw,nw⟩:=Ap (ns.getD 0 0) many (by omega)
 have ic:=pK nw aw
 have u:Uni (aZ w):=⟨fR w,fun a ha=>aw a (inOrd_mem.mp ha).2,by rw[ic,lw];omega⟩
 have k3:aL 2 (iO (aj bw (ab false (aj au (ab false (aa 0) (ab false (pC (.int 0)) ai))) (ab false (aa 1) ai)))) [.sh sc,.sh (.int many),.no,.no,.no,.no,.no]=some ([.sh sc,.sh (.int many),.ow ((aZ w).map av),.no,.no,.no,.no],.nx):=by
  have c0:aj au (ab false (aa 0) (ab false (pC (.int 0)) ai)) [.sh sc,.sh (.int many),.no,.no,.no,.no,.no]=some (.sh (.int (ns.getD 0 0)),[.sh sc,.sh (.int many),.no,.no,.no,.no,.no]):=aE (ss:=[.sh sc,.sh (.int 0)]) rfl rfl a0
  have cn:=aE (c:=bw) (BR c0 (show aa 1 [.sh sc,.sh (.int many),.no,.no,.no,.no,.no]=some (.sh (.int many),[.sh sc,.sh (.int many),.no,.no,.no,.no,.no])from rfl)) rfl ew
  exact jC (ue cn (by omega) nw aw) (show 2 < 7 by decide)
 generalize hU:aZ w=U at u k3 ic
 obtain⟨W,w1,w2,w3,ef⟩:=lS ns u (by omega)
 rw[hsc]at ef
 obtain⟨H,L,tw⟩:=BU u w3 w1 w2
 have hn:=tw.hn
 have ln:=tw.ln
 have azH:∀v∈H,∀a∈v,az a:=fun v hv=>u.azw (tw.hs v hv)
 have azL:∀v∈L,∀a∈v,az a:=fun v hv=>u.azw (tw.ls v hv)
 have dH:=we azH
 have dL:=we azL
 have lW:(W.map ae).length≤1000000:=by rw[dv];omega
 have lH:(H.map ae).length≤1000000:=by rw[dv];omega
 have lL:(L.map ae).length≤1000000:=by rw[dv];omega
 have k4:aL 3 (aj bE (ab false (aa 0) (ab false (aa 2) ai))) [.sh sc,.sh (.int many),.ow (U.map av),.no,.no,.no,.no]=some ([.sh sc,.sh (.int many),.ow (U.map av),.ow (W.map ae),.no,.no,.no],.nx):=by
  have c:aj bE (ab false (aa 0) (ab false (aa 2) ai)) [.sh sc,.sh (.int many),.ow (U.map av),.no,.no,.no,.no]=some (.ow (W.map ae),[.sh sc,.sh (.int many),.ow (U.map av),.no,.no,.no,.no]):=aE (ss:=[.sh sc,.al 2]) rfl rfl ef
  exact jC c (show 3 < 7 by decide)
 have k5:aL 4 (aj am (ab false (c7 (aa 3)) ai)) [.sh sc,.sh (.int many),.ow (U.map av),.ow (W.map ae),.no,.no,.no]=some ([.sh sc,.sh (.int many),.ow (U.map av),.ow (W.map ae),.ow (H.map ae),.no,.no],.nx):=jC (aE (ss:=[.ow (W.map ae)]) (yJ (lz rfl lW)) rfl tw.pm) (show 4 < 7 by decide)
 have k6:(cF (nh (bS (dW (lD (kz .list) (aa 4)))) (bS (dW (bJ jW (ab false (bd [none] (gn (aa 4)) gy aR fb) ai))))) (bq (pC (.bool false))) bK) [.sh sc,.sh (.int many),.ow (U.map av),.ow (W.map ae),.ow (H.map ae),.no,.no]=some ([.sh sc,.sh (.int many),.ow (U.map av),.ow (W.map ae),.ow (H.map ae),.no,.no],.nx):=by
  have o1:bS (dW (lD (kz .list) (aa 4))) [.sh sc,.sh (.int many),.ow (U.map av),.ow (W.map ae),.ow (H.map ae),.no,.no]=some (false,[.sh sc,.sh (.int many),.ow (U.map av),.ow (W.map ae),.ow (H.map ae),.no,.no]):=by simp only[bS,dW,lD,aa,Z3,Z2,look,Sl.val,kz,Ty.is,yC,Z1,Z0,gl,Bool.not_true]
  have k:=eS (js:=[none]) (it:=gn (aa 4)) (c:=aR) (E:=[.sh sc,.sh (.int many),.ow (U.map av),.ow (W.map ae),.ow (H.map ae),.no,.no]) rfl (wl H .no) (fS (fun _=>true) H) (by rw[dv];omega)
  have bo:=eu (fun _:List Nat=>true) H
  have al:(H.map fun _=>true).all id=true:=by simp
  have o3:bS (dW (bJ jW (ab false (bd [none] (gn (aa 4)) gy aR fb) ai))) [.sh sc,.sh (.int many),.ow (U.map av),.ow (W.map ae),.ow (H.map ae),.no,.no]=some (false,[.sh sc,.sh (.int many),.ow (U.map av),.ow (W.map ae),.ow (H.map ae),.no,.no]):=by
   simp only[bS,dW,bJ,yJ k,Z0,Z1,cy,PL.look,Sl.val,jW,bo,al,gl,Bool.not_true]
  exact gg (BO o1 o3) rfl
 obtain⟨x5,k7⟩:∃x,de (bH (aa 4)) fO fP [.sh sc,.sh (.int many),.ow (U.map av),.ow (W.map ae),.ow (H.map ae),.no,.no]=some ([.sh sc,.sh (.int many),.ow (U.map av),.ow (W.map ae),.sh (.list (H.map ae)),x,.no],.nx):=by
  have it:bH (aa 4) [.sh sc,.sh (.int many),.ow (U.map av),.ow (W.map ae),.ow (H.map ae),.no,.no]=some (H.map ae,[.sh sc,.sh (.int many),.ow (U.map av),.ow (W.map ae),.sh (.list (H.map ae)),.no,.no]):=rfl
  obtain⟨y,e⟩:=yM (.sh sc) (.sh (.int many)) (.ow (U.map av)) (.sh (.list (H.map ae))) .no (W:=W) (by omega) H .no fun v hv=>⟨by have:=u.short (tw.hs v hv);omega,tw.hm v hv,tw.hl v hv⟩
  refine⟨y,?_⟩
  unfold de
  rw[it,Option.bind_some]
  exact e
 have k8:aL 6 (aj aC (ab false (c7 (aa 3)) ai)) [.sh sc,.sh (.int many),.ow (U.map av),.ow (W.map ae),.sh (.list (H.map ae)),x5,.no]=some ([.sh sc,.sh (.int many),.ow (U.map av),.ow (W.map ae),.sh (.list (H.map ae)),x5,.ow (L.map ae)],.nx):=jC (aE (ss:=[.ow (W.map ae)]) (yJ (lz rfl lW)) rfl tw.pl) (show 6 < 7 by decide)
 have q1:(aj am (ab false (c7 (aa 4)) ai)) [.sh sc,.sh (.int many),.ow (U.map av),.ow (W.map ae),.sh (.list (H.map ae)),x5,.ow (L.map ae)]=some (.ow (L.map ae),[.sh sc,.sh (.int many),.ow (U.map av),.ow (W.map ae),.sh (.list (H.map ae)),x5,.ow (L.map ae)]):=aE (ss:=[.ow (H.map ae)]) (yJ (AA rfl lH)) rfl tw.ph
 have q2:(aj am (ab false (c7 (aa 6)) ai)) [.sh sc,.sh (.int many),.ow (U.map av),.ow (W.map ae),.sh (.list (H.map ae)),x5,.ow (L.map ae)]=some (.ow (H.map ae),[.sh sc,.sh (.int many),.ow (U.map av),.ow (W.map ae),.sh (.list (H.map ae)),x5,.ow (L.map ae)]):=aE (ss:=[.ow (L.map ae)]) (yJ (lz rfl lL)) rfl tw.pb
 have e1:=sk (E:=[.sh sc,.sh (.int many),.ow (U.map av),.ow (W.map ae),.sh (.list (H.map ae)),x5,.ow (L.map ae)]) (g:=aa 6) (s2:=.al 6) q1 rfl rfl rfl dL
 have e2:=sk (E:=[.sh sc,.sh (.int many),.ow (U.map av),.ow (W.map ae),.sh (.list (H.map ae)),x5,.ow (L.map ae)]) (g:=aa 4) (s2:=.sh (.list (H.map ae))) q2 rfl rfl rfl dH
 have k9:kr (af jU false (aj am (ab false (c7 (aa 4)) ai)) (aa 6)) (af jU false (aj am (ab false (c7 (aa 6)) ai)) (aa 4)) [.sh sc,.sh (.int many),.ow (U.map av),.ow (W.map ae),.sh (.list (H.map ae)),x5,.ow (L.map ae)]=some (.sh (.bool true),[.sh sc,.sh (.int many),.ow (U.map av),.ow (W.map ae),.sh (.list (H.map ae)),x5,.ow (L.map ae)]):=by
  simp only[kr,e1,Z0,look,Sl.val,gl,e2,if_true,Z1]
 have g:ir [sc]=(pA [.sh sc,.no,.no,.no,.no,.no,.no]).bind fun a=>match a.2 with |.rt r=>cQ r |.nx=>some (.sh .none) |_=>none:=rfl
 rw[g,pA,aK k1,aK k2,aK k3,aK k4,aK k5,aK k6,aK k7,aK k8]
 simp only[bq,k9,Z0,Z1,cQ,bY,cE,if_true]
end Nhk34
namespace Nhk34
open PySem L2 Nh PL
open PySem.W (nsIn codeIn keepIn fnOf)
theorem lT{fd:FuncData}{xs:List Str}(h:∀a0,bindArgs fd ⟨[a0],[]⟩=pure (xs.zip [a0])):∀us:List Value,us.length=1→bindArgs fd ⟨us,[]⟩=pure (xs.zip us)
 |[a0],_=>h a0
theorem nX{fd:FuncData}{xs:List Str}(h:∀a0 a1,bindArgs fd ⟨[a0,a1],[]⟩=pure (xs.zip [a0,a1])):∀us:List Value,us.length=2→bindArgs fd ⟨us,[]⟩=pure (xs.zip us)
 |[a0,a1],_=>h a0 a1
abbrev HD(K:Frag)(n:Str)(st:Stmt):Prop:=∃(f:Addr) (oc:Value) (od an:Option Addr) (sl:Array (Option Value)) (kV dc pm cd ct:Value),nsIn K mainGlobals n=some (some (.ref f))∧K.lookup f=some ⟨oc,od,.func (fnOf n n (cL st) (bh st) (ag st) .none kV dc pm an cd ct),sl⟩∧codeIn K cd n=true∧keepIn K (.ref f)=true
theorem BW{K:Frag}{n:Str}{st:Stmt}{f:Addr}{oc:Value}{od an:Option Addr}{sl:Array (Option Value)}{kV dc pm cd ct:Value}(a:nsIn K mainGlobals n=some (some (.ref f)))(l:K.lookup f=some ⟨oc,od,.func (fnOf n n (cL st) (bh st) (ag st) .none kV dc pm an cd ct),sl⟩)(c:codeIn K cd n=true)(k:keepIn K (.ref f)=true):HD K n st:=⟨f,oc,od,an,sl,kV,dc,pm,cd,ct,a,l,c,k⟩
theorem dG{K:Frag}{h:Heap}{mg:Str→Option Value}{x:Str}{st:Stmt}{ps:List Str}(d:HD K x st)(X:K.In h)(G:h.Ns mainGlobals mg)(b:∀(kV doc pm:Value) (an:Option Addr) (cdv ct:Value) (us:List Value),us.length=ps.length→bindArgs (fnOf x x (cL st) (bh st) (ag st) .none kV doc pm an cdv ct) ⟨us,[]⟩=pure (ps.zip us)):Def K mg x st ps:=by
 obtain⟨f,oc,od,an,sl,kV,dc,pm,cd,ct,a,l,c,k⟩:=d
 exact zw X G a l c k b
theorem AC {l:OpenLaw} {w:World} {K:Frag} {h:Heap} {mg:Str→Option Value} {fa:Addr} (X:K.In h) (G:h.Ns mainGlobals mg) (hfa:mg "law"=some (.ref fa)) (B:Bn mg)
  (d1:HD K "is_nail" jw)
  (d2:HD K "set_of" kX)
  (d3:HD K "bits_of" jx)
  {f4:Addr} {od4 an4:Option Addr} {sl4:Array (Option Value)} {oc4 kV4 dc4 pm4 ct4:Value}
  {cT PT:Addr} {vsT:Array Value} {ocT:Value} {odT:Option Addr} {slT:Array (Option Value)} (a4:nsIn K mainGlobals "in_told_order"=some (some (.ref f4))) (l4:K.lookup f4=some ⟨oc4,od4,.func (fnOf "in_told_order" "in_told_order" (cL bQ) (bh bQ) (ag bQ) .none kV4 dc4 pm4 an4 (.ref cT) ct4),sl4⟩) (c4:codeIn K (.ref cT) "in_told_order"=true) (k4:keepIn K (.ref f4)=true)
  (t1:K.lookup cT=some ⟨ocT,odT,.fields vsT,slT⟩) (t2:(vsT[11]? :Option Value)=some (.ref PT)) (t3:codeHdIn K cT PT=true)
  (d5:HD K "has_part_among" dP)
  (d6:HD K "meets_each" fY)
  (d7:HD K "least_of" iu)
  (d8:HD K "all_sets" iv)
  (d9:HD K "check_many" fZ)
  (d10:HD K "nails_among" fB)
  (d11:HD K "least_sets" f6)
  (d12:HD K "meeting_sets" fc)
  (d13:HD K "_law_at" k_)
  (d14:HD K "_law_stir" iw)
  (d15:HD K "_law_nails" gz)
  (d16:HD K "_law_set" jA)
  (d17:HD K "_law_family" f7)
  (d18:HD K "_law_meets" gA)
  (d19:HD K "_law_is_least" fe)
  (d20:HD K "law" la)
  {t_LETTERS:Tok} (g_LETTERS:nsIn K mainGlobals "LETTERS"=some (some (.str "abcdefghijklmnopqrstuvwxyz" t_LETTERS)))
  {t_MOST_NAILS:Tok} (g_MOST_NAILS:nsIn K mainGlobals "MOST_NAILS"=some (some (.int 10 t_MOST_NAILS))):
  ∃fd:FuncData,(∀(s:Shared) (v:Value),BindsTo s fd ⟨[v],[]⟩ [("_law_script",v)])∧∀base:Heap,K.In base→base.Ns mainGlobals mg→FnOk l.prog w K mg base pU 5 fa fd ["_law_script"] (dD K ir):=by
 obtain⟨f0,oc0,od0,an0,sl0,kV0,dc0,pm0,cd0,ct0,a0,l0,c0,k0⟩:=d20
 have e:=hfa.symm.trans (mg_of X G a0)
 cases e
 have F0:=qc (st:=la) l0 c0 k0
 have G_LETTERS:=mg_of X G g_LETTERS
 have G_MOST_NAILS:=mg_of X G g_MOST_NAILS
 have e_in_told_order:DefT K mg "in_told_order" bQ ["sets"] cT PT:=⟨⟨f4,_,_,_,_,_,_,_,_,l4,c4,k4,mg_of X G a4,.all (fun us hl=>lT (fun _=>rfl) us hl)⟩,t3,vx a4 l4 rfl t1 t2⟩
 refine⟨fnOf "law" "law" (cL la) (bh la) (ag la) .none kV0 dc0 pm0 an0 cd0 ct0,fun s v=>.of_eq rfl,fun base _ _=>?_⟩
 have D_is_nail:=qI (P:=l.prog) (w:=w) (base:=base) (dG d1 X G fun _ _ _ _ _ _=>lT fun _=>rfl) B
 have D_set_of:=tV (P:=l.prog) (w:=w) (base:=base) (dG d2 X G fun _ _ _ _ _ _=>lT fun _=>rfl) B D_is_nail
 have D_bits_of:=qJ (P:=l.prog) (w:=w) (base:=base) (dG d3 X G fun _ _ _ _ _ _=>lT fun _=>rfl) B G_LETTERS
 have D_in_told_order:=jz (P:=l.prog) (w:=w) (base:=base) e_in_told_order B
 have D_has_part_among:=iX (P:=l.prog) (w:=w) (base:=base) (dG d5 X G fun _ _ _ _ _ _=>nX fun _ _=>rfl) B
 have D_meets_each:=lJ (P:=l.prog) (w:=w) (base:=base) (dG d6 X G fun _ _ _ _ _ _=>nX fun _ _=>rfl) B
 have D_least_of:=pB (P:=l.prog) (w:=w) (base:=base) (dG d7 X G fun _ _ _ _ _ _=>lT fun _=>rfl) B D_in_told_order D_bits_of D_has_part_among
 have D_all_sets:=pD (P:=l.prog) (w:=w) (base:=base) (dG d8 X G fun _ _ _ _ _ _=>lT fun _=>rfl) B
 have D_check_many:=lM (P:=l.prog) (w:=w) (base:=base) (dG d9 X G fun _ _ _ _ _ _=>lT fun _=>rfl) B G_MOST_NAILS
 have D_nails_among:=kZ (P:=l.prog) (w:=w) (base:=base) (dG d10 X G fun _ _ _ _ _ _=>lT fun _=>rfl) B D_set_of
 have D_least_sets:=lO (P:=l.prog) (w:=w) (base:=base) (dG d11 X G fun _ _ _ _ _ _=>lT fun _=>rfl) B D_set_of D_least_of
 have D_meeting_sets:=jZ (P:=l.prog) (w:=w) (base:=base) (dG d12 X G fun _ _ _ _ _ _=>lT fun _=>rfl) B D_least_sets D_bits_of D_nails_among D_check_many D_all_sets D_meets_each D_least_of
 have D_law_at:=tX (P:=l.prog) (w:=w) (base:=base) (dG d13 X G fun _ _ _ _ _ _=>nX fun _ _=>rfl) B
 have D_law_stir:=pE (P:=l.prog) (w:=w) (base:=base) (dG d14 X G fun _ _ _ _ _ _=>nX fun _ _=>rfl) B
 have D_law_nails:=nR (P:=l.prog) (w:=w) (base:=base) (dG d15 X G fun _ _ _ _ _ _=>nX fun _ _=>rfl) B
 have D_law_set:=qL (P:=l.prog) (w:=w) (base:=base) (dG d16 X G fun _ _ _ _ _ _=>nX fun _ _=>rfl) B
 have D_law_family:=lP (P:=l.prog) (w:=w) (base:=base) (dG d17 X G fun _ _ _ _ _ _=>nX fun _ _=>rfl) B D_law_at D_law_set D_law_stir
 have D_law_meets:=nT (P:=l.prog) (w:=w) (base:=base) (dG d18 X G fun _ _ _ _ _ _=>nX fun _ _=>rfl) B
 have D_law_is_least:=j0 (P:=l.prog) (w:=w) (base:=base) (dG d19 X G fun _ _ _ _ _ _=>nX fun _ _=>rfl) B D_law_meets
 exact Al F0 B D_law_at D_law_nails D_law_family D_meeting_sets D_law_is_least D_least_sets
theorem CB{l:OpenLaw}{q:Program}{loose:List Str}{XP:(Str→Option Value)→Heap→Prop}{YP:World→Heap→Prop}{d:DefRec}{K:Params→Frag}(hn:l.most=some 63)(hdf:d.params.defaults=[])
  (hY:∀(w:World) (h:Heap),YP w h→(K w.params).In h∧rH (K w.params) h)
  (F:∀(w:World) (mg:Str→Option Value) (fa:Addr) (h:Heap),(K w.params).In h→h.Ns mainGlobals mg→mg d.name=some (.ref fa)→
   ∃fd:FuncData,(∀(s:Shared) (u:Value),BindsTo s fd ⟨[u],[]⟩ [("_law_script",u)])∧∀base:Heap,(K w.params).In base→base.Ns mainGlobals mg→FnOk l.prog w (K w.params) mg base pU 5 fa fd ["_law_script"] (dD (K w.params) ir)):
  PySem.W.WalkO q loose XP YP l.row.toRowW d [] (fun f vs=>PySem.call f vs):=
 L2.vj (n:=63) (k:=5) (x:="_law_script") (CX:=fun _=>pU) (sp:=fun w=>dD (K w.params) ir) hn (by decide) hdf ⟨rfl,by decide,by decide⟩ hY F (fun _ _ a ns hl hS=>zL (AB ns hl) hS) fun _ _ _ _ _ z=>z
end Nhk34
open PySem PySem.W PyProof.Rows
namespace PySem.W.Fast
def tw11391143194965823488:=0
def tw3841243690448641152:=0
def tw14707106659478667520:=0
def tw12875767844154022208:=0
def tw72574258369776544:=0
def tw8204778039195648960:=0
def tw17544544027946077569:=0
def tw83530309347912097:=0
def tw17630607704930623937:=0
def tw1842688459871885089:=0
def tw2165077102688054081:=0
def tw4014277920920708386:=0
def tw5161595093327780578:=0
def tw70380587039704802:=0
def tw527805655763540866:=0
def tw5249538044331698819:=0
def tw17345901521712876259:=0
def tw9744058085110046691:=0
def tw11328523401643539588:=0
def tw16305001102509804772:=0
def tw12036440511455118148:=0
def tw14003612220307709828:=0
def tw6774059977605686341:=0
def tw1929005452727170149:=0
def tw17183390939843730597:=0
def tw10603669175028772005:=0
def tw1241955080683224549:=0
def tw13315691699273813669:=0
def tw17054302095798881061:=0
def tw4125729915220153414:=0
def tw228074887668103366:=0
def tw16088208229321716038:=0
def tw9010522870270646694:=0
def tw16531249600225264070:=0
def tw4658835149329771014:=0
def tw9988901558985820263:=0
def tw4523467571561914631:=0
def tw10258247836490229351:=0
def tw15078955925297739527:=0
def tw9464729288490510183:=0
def tw4277336337121712360:=0
def tw18069463839202227720:=0
def tw6245104225437086216:=0
def tw13909168804746311240:=0
def tw4597407164409306792:=0
def tw14007884554504177352:=0
def tw13570146749172692680:=0
def tw9750498620689560360:=0
def tw2452483955118789865:=0
def tw14326384818261359977:=0
def tw4991442915353804617:=0
def tw16339807378774551401:=0
def tw4080615364666978249:=0
def tw13221798818523343849:=0
def tw4891099892775903498:=0
def tw17014833403715742250:=0
def tw10772018397200690762:=0
def tw14749687017011280971:=0
def tw13935644103003540139:=0
def tw1012617037511902316:=0
def tw3693380925442056364:=0
def tw10775521199538603564:=0
def tw9061981947980449772:=0
def tw11545269093944595693:=0
def tw16328233458008834477:=0
def tw13388846225337289261:=0
def tw10320854162698756941:=0
def tw113837669005135789:=0
def tw17391547421572625518:=0
def tw72492163459269870:=0
def tw12774708393732153710:=0
def tw13701698140170740270:=0
def tw11635657914844281582:=0
def tw10936252590415580974:=0
def tw5901823497482028910:=0
def tw9570230772570555183:=0
def tw14419049998578563504:=0
def tw8649665525544737232:=0
def tw2462383909509307088:=0
def tw1658757444942208816:=0
def tw9319534070496269200:=0
def tw16327372352020840625:=0
def tw7043494335790282161:=0
def tw635112739336301009:=0
def tw13660968839862206193:=0
def tw2196143144523989937:=0
def tw7830704184036065490:=0
def tw987283938973921810:=0
def tw10025214238659131986:=0
def tw10076673391017805843:=0
def tw9395853432905742387:=0
def tw1605574760692207731:=0
def tw15995285874515610803:=0
def tw8314697865910715859:=0
def tw8164904798252512819:=0
def tw1132435568085423763:=0
def tw11428938670477631187:=0
def tw7427003701113386931:=0
def tw6811428446415500468:=0
def tw13789874100276969684:=0
def tw4650930655077740788:=0
def tw17382919011949937972:=0
def tw7081299982718580180:=0
def tw14547997715372591604:=0
def tw16464384019260605076:=0
def tw6155961060626080468:=0
def tw11620040924605053908:=0
def tw5873352783595514229:=0
def tw17733925942928725429:=0
def tw3661035857095334645:=0
def tw18431546281955696501:=0
def tw15765260196796895221:=0
def tw14346171278496295254:=0
def tw3130883177186990422:=0
def tw16173249061496256310:=0
def tw17510746368228195158:=0
def tw16750886989619525558:=0
def tw8779401993340517623:=0
def tw5270791986148656439:=0
def tw6255388697354532375:=0
def tw12768043752842638199:=0
def tw12265406135339416728:=0
def tw16468201473522245880:=0
def tw11981150106151237912:=0
def tw16860342305549136184:=0
def tw12202709224505337528:=0
def tw17423422521083964120:=0
def tw10156080283803281272:=0
def tw13180302794844710776:=0
def tw4366279138846392280:=0
def tw4979939018500204153:=0
def tw7367869608531622553:=0
def tw13021166364026883993:=0
def tw4563860045309767834:=0
def tw11879018696515542266:=0
def tw4806318573148424538:=0
def tw9765409663379517242:=0
def tw8327469194096497691:=0
def tw12515251853065401499:=0
def tw14639651973750428987:=0
def tw10058932595743034715:=0
def tw4621905896685092347:=0
def tw4321488732914411099:=0
def tw10118831047918546587:=0
def tw3425721874834593820:=0
def tw6475912690670925276:=0
def tw16229798795788085084:=0
def tw3510074952977097181:=0
def tw7630660338018981373:=0
def tw14808861822923058781:=0
def tw2395503498521859869:=0
def tw14907215502830624637:=0
def tw14118963271567617246:=0
def tw17103847096364949790:=0
def tw14594341468251580798:=0
def tw11722026123135946206:=0
def tw732196644072887998:=0
def tw7961909972952416190:=0
def tw10557356326773242814:=0
def tw14366625253004102879:=0
def tw8276174575729688895:=0
def tw11317574954963084959:=0
def tw6749616364112506977:=0
end PySem.W.Fast
set_option maxRecDepth 100000 in
set_option maxHeartbeats 0 in
theorem PySem.Challenge.cw_nailhang_k34_meeting_twice_holds : PySem.Challenge.rw_nailhang_k34_meeting_twice.Holds := by
 w_on;o_law;k_head;(case hw=>w_witness2)
 k_fill
 refine Nhk34.CB (l:=PySem.Challenge.rw_nailhang_k34_meeting_twice) rfl rfl (fun w h Y=>⟨PySem.W.km_in_of Y,by
  refine' PL.vz (PySem.W.km_in_of Y) ?y1 ?y2 ?y3 ?y4 ?y5 ?y6 ?y7 (PySem.W.km_tabs_of Y _ ?y8)
  (case y1=>k_is)
  (case y2=>k_is)
  (case y3=>exact rfl)
  (case y4=>k_is)
  (case y5=>exact rfl)
  (case y6=>kernel_rfl)
  (case y7=>kernel_rfl)
  (case y8=>k_mem)⟩) ?F
 case F=>
  intro w mg fa h KX G hmg
  refine' Nhk34.AC KX G hmg (PL.BD KX G ?_ ?_ ?_ ?_ ?_ ?_ ?_ ?_ ?_ ?_ ?_ ?_ ?_ ?_ ?_ ?_ ?_ ?_ ?_ ?_) ?_ ?_ ?_ ?_ ?_ ?_ ?_ ?_ ?_ ?_ ?_ ?_ ?_ ?_ ?_ ?_ ?_ ?_ ?_ ?_ ?_ ?_ ?_ ?_ ?_ ?_ ?_ ?_
  all_goals first |(refine' Nhk34.BW ?_ ?_ ?_ ?_ <;> first |k_is |skip) |k_is |exact rfl |kernel_rfl |skip
