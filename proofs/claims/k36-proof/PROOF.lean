import PyProof.Rows.All
import KE.KLam
import KE.KNestM
import PyProof.OldK
import Wide.All
import OpenK.AllK
import Wide.FinOn
import Lean
import PyProof.EqAt
import PyProof.EqKinds
import PyProof.TupleCall
import KE.KRevIter
import PyProof.Rows.SeqMore
import PyProof.Rows.ListMulArg
import PyProof.ZipIter
import PyProof.Rows.ZipGen
import PyProof.EnumMake
import PyProof.StrWalks
import PyProof.SliceStr2
import PyProof.StrBlockH
import PyProof.FString5
import PyProof.Rows.StrJoin2
import PyProof.Rows.Range3
import KE.KDictLaws
import PyProof.ConsumeWalk
import PyProof.SumWalkG
import PyProof.Rows.SeqCalls
import PyProof.Rows.SeqGen
import PyProof.Rows.MinMaxN
import PyProof.Rows.CallKwBuiltin
import PyProof.Rows.SortStr
import PyProof.StrOps2
import PyProof.Rows.StrMul
import PyProof.IsRules
import PyProof.Rows.SetFrom
import PyProof.CollectStr
import PyProof.Rows.SortRuns
import PyProof.Rows.SortKey
import KE.KSortTup
import PyProof.StrOps
import PyProof.ToksMono
import PyProof.StrLawsIn
import PyProof.StrLawsReplace
import PySem.Challenge.RW_nailhang_k36_holding_sets
set_option Elab.async false
set_option linter.all false
set_option maxRecDepth 100000
set_option maxHeartbeats 4000000
local macro_rules | `(tactic|omega) => `(tactic|lia)
noncomputable section
theorem Z0{α β:Type}(a:α)(f:α→Option β):(some a).bind f=f a:=rfl
theorem Z1{α β:Type}{x:α}{f:α→β}:(some x).map f=some (f x):=rfl
theorem Z2{α:Type}{a:α}{l:List α}:(a::l)[0]? =some a:=rfl
theorem Z3{α:Type}{a:α}{l:List α}{i}:(a::l)[i+1]? =l[i]? :=rfl
theorem Z4{α:Type}{a:α}{l:List α}:(a::l).length=l.length+1:=rfl
theorem Z5{α:Type}:([]:List α).length=0:=rfl
theorem Z6{α:Type}{a b:α}{l:List α}:(a::l).set 0 b=b::l:=rfl
theorem Z7{α:Type}{a b:α}{l:List α}{n}:(a::l).set (n+1) b=a::l.set n b:=rfl
theorem Z8{α:Type}{l:List α}:[]++l=l:=rfl
theorem Z9{α:Type}{a:α}{l m:List α}:a::l++m=a::(l++m):=rfl
def bB:=@And.intro _ _ @Bool.false_and <|And.intro @Bool.false_eq_true <|And.intro @if_true.{1} <|And.intro @if_false.{1} <|And.intro @Nat.zero_add <|And.intro @Bool.not_false <|And.intro @Bool.and_true <|And.intro @decide_true <|And.intro @decide_false <|And.intro @Bool.true_or <|And.intro @Bool.true_and @Bool.not_true
def Za:=@Option.bind_eq_some_iff
def ce:=@List.map_cons
def gz:=@PySem.Heap.get?_push_of_some
def eQ:=@List.length_map
def g6:=@List.mem_cons_of_mem
def Zae:=@Option.map_eq_some_iff
def Zaf:=@List.mem_singleton
def ir:=@List.mem_cons_self
def fm:=@List.map_nil
def jU:=@PySem.Heap.get?_push_size
def lD:=@List.mem_append_right
def gn:=@PySem.Heap.lt_size
def fS:=@Nat.le_refl
def gK:=@Nat.ne_of_lt
def Zan:=@List.mem_append
def kB:=@List.size_toArray
def lE:=@Nat.lt_of_lt_of_le
def Zaq:=@List.mem_cons
def ou:=@List.append_assoc
def mM:=@Option.any_some
def jK:=@Nat.le_trans
def ov:=@Nat.le_add_right
def jV:=@Nat.le_of_lt
def qa:=@Bool.false_ne_true
def rN:=@Array.toList_append
def wc:=@List.getElem?_eq_getElem
def oz:=@List.map_append
def Zb:=@Array.length_toList
def Zba:=@List.mem_map
def rO:=@Nat.lt_succ_of_lt
def xF:=@Nat.add_sub_cancel_left
def ud:=@List.reverse_cons
def zR:=@List.getElem?_append_right
def vm:=@Nat.lt_of_le_of_lt
def vn:=@List.length_append
def Zbh:=@List.nodup_append
def uf:=@Bool.and_eq_true
def wd:=@Int.emod_lt_of_pos
def we:=@List.getElem?_map
open PySem.W (instObj tabObj methodObj Frag nsIn lookIn kia_one kitx_list kitx_dict keepIn fnOf codeIn mg_of mg_none_of OpenLaw codeHdIn)
local macro_rules | `(tactic|and_intros)=>`(tactic|exact⟨rfl,rfl,rfl,by decide+kernel,rfl,by decide+kernel,by decide+kernel⟩)
namespace L2
open PySem PySem.Spec PyProof.Rows
abbrev e8:=Sum Int Str
def BK:e8→Value→Bool
 |.inl k,v=>Value.isInt k v
 |.inr x,v=>Value.isStrOf x v
def Fh(w:World):e8→Int
 |.inl k=>hashInt k
 |.inr x=>hashStr w x
theorem c8:∀{k:e8} {v:Value},BK k v=true→(∃i t,k=Sum.inl i∧v=Value.int i t)∨(∃x t,k=Sum.inr x∧v=Value.str x t)
 |.inl i,v,h=>by
  obtain⟨t,e⟩:=Value.isInt_shape (k:=i) (v:=v) h
  exact .inl ⟨i,t,rfl,e⟩
 |.inr x,v,h=>by
  obtain⟨t,e⟩:=Value.isStrOf_shape (x:=x) (v:=v) h
  exact .inr ⟨x,t,rfl,e⟩
theorem Cf(a b:Int):decide ((Sum.inl a:e8)=Sum.inl b)=(a == b):=by
 by_cases e:a=b
 ·subst e;simp
 ·have h:¬(Sum.inl a:e8)=Sum.inl b:=fun q=>e (Sum.inl.inj q)
  rw[decide_eq_false h]
  exact(beq_eq_false_iff_ne.mpr e).symm
theorem Cg(a b:Str):decide ((Sum.inr a:e8)=Sum.inr b)=decide (a=b):=by
 by_cases e:a=b
 ·subst e;simp
 ·have h:¬(Sum.inr a:e8)=Sum.inr b:=fun q=>e (Sum.inr.inj q)
  rw[decide_eq_false h,decide_eq_false e]
theorem Ci(a:Int)(b:Str):decide ((Sum.inl a:e8)=Sum.inr b)=false:=decide_eq_false (fun q=>nomatch q)
theorem Cj(a:Str)(b:Int):decide ((Sum.inr a:e8)=Sum.inl b)=false:=decide_eq_false (fun q=>nomatch q)
def mV(prog:Program)(w:World):PySem.KeyKind prog w e8 where
 is:=BK
 hash:=Fh w
 inj:=fun v a b ha hb=>by
  rcases c8 ha with⟨i,t,rfl,rfl⟩ |⟨x,t,rfl,rfl⟩
  ·rcases c8 hb with⟨j,u,rfl,e⟩ |⟨y,u,rfl,e⟩
   ·injection e with e1 _;rw[e1]
   ·exact nomatch e
  ·rcases c8 hb with⟨j,u,rfl,e⟩ |⟨y,u,rfl,e⟩
   ·exact nomatch e
   ·injection e with e1 _;rw[e1]
 byValue:=fun k v h=>by
  rcases c8 h with⟨i,t,rfl,rfl⟩ |⟨x,t,rfl,rfl⟩ <;> rfl
 pyHash:=fun hv h=>by
  rcases c8 hv with⟨i,t,rfl,rfl⟩ |⟨x,t,rfl,rfl⟩
  ·exact wpAny_pyHash_int h
  ·exact wpAny_pyHash_str h
 eqBool:=fun hu hv h=>by
  rcases c8 hu with⟨i,t,rfl,rfl⟩ |⟨x,t,rfl,rfl⟩
  ·rcases c8 hv with⟨j,u,rfl,rfl⟩ |⟨y,u,rfl,rfl⟩
   ·rw[Cf]at h;exact wpAny_eqBool_int h
   ·rw[Ci]at h;exact SeqAt.EqAt.int_str i t y u _ _ _ _ h
  ·rcases c8 hv with⟨j,u,rfl,rfl⟩ |⟨y,u,rfl,rfl⟩
   ·rw[Cj]at h;exact SeqAt.EqAt.str_int x t j u _ _ _ _ h
   ·rw[Cg]at h;exact wpAny_eqBool_str h
 «strs»:=fun k x t v h=>by
  rcases c8 h with⟨i,u,rfl,e⟩ |⟨y,u,rfl,e⟩
  ·exact nomatch e
  ·injection e with e1 _
   subst e1
   cases v <;> rfl
end L2
namespace L2
open PySem PySem.Spec PyProof.Rows
inductive V where
 |non |bl (b:Bool) |int (i:Int) |str (x:Str) |byt (b:Array UInt8) |flt (b:UInt64) |ref (a:Addr) |ty (n:String)
 deriving DecidableEq
def RelV:V→Value→Prop
 |.non,u=>u=Value.none
 |.bl b,u=>u=Value.bool b
 |.int i,u=>∃t,u=Value.int i t
 |.str x,u=>∃t,u=Value.str x t
 |.byt b,u=>∃t,u=Value.bytes b t
 |.flt b,u=>∃t,u=Value.float b t
 |.ref a,u=>u=Value.ref a
 |.ty n,u=>u=Value.type n
abbrev Vals:List V→List Value→Prop:=Paired RelV
theorem Vals.length{xs:List V}{us:List Value}(r:Vals xs us):xs.length=us.length:=Paired.length r
theorem Vals.get:∀{xs:List V} {us:List Value} {i:Nat} {x:V},Vals xs us→xs[i]? =some x→∃u,us[i]? =some u∧RelV x u
 |_,_,_,_,.nil,e=>by simp at e
 |_,_,0,_,.cons r _,e=>by simp at e;subst e;exact⟨_,rfl,r⟩
 |_,_,i+1,x,.cons _ t,e=>by
  obtain⟨u,h1,h2⟩:=Vals.get (i:=i) (x:=x) t (by simpa using e)
  exact⟨u,by simpa using h1,h2⟩
theorem Vals.set{x:V}{u:Value}(r:RelV x u):∀{xs:List V} {us:List Value} (i:Nat),Vals xs us→Vals (xs.set i x) (us.set i u)
 |_,_,_,.nil=>.nil
 |_,_,0,.cons _ t=>.cons r t
 |_,_,i+1,.cons q t=>.cons q (Vals.set r i t)
theorem Vals.append:∀{xs ys:List V} {us ws:List Value},Vals xs us→Vals ys ws→Vals (xs++ys) (us++ws)
 |_,_,_,_,.nil,s=>s
 |_,_,_,_,.cons r t,s=>.cons r (Vals.append t s)
theorem Vals.take:∀{xs:List V} {us:List Value} (n:Nat),Vals xs us→Vals (xs.take n) (us.take n)
 |_,_,0,_=>.nil
 |_,_,_+1,.nil=>.nil
 |_,_,n+1,.cons r t=>.cons r (Vals.take n t)
theorem Vals.drop:∀{xs:List V} {us:List Value} (n:Nat),Vals xs us→Vals (xs.drop n) (us.drop n)
 |_,_,0,r=>r
 |_,_,_+1,.nil=>.nil
 |_,_,n+1,.cons _ t=>Vals.drop n t
def RelO:Option V→Option Value→Prop
 |some v,some u=>RelV v u
 |none,none=>True
 |_,_=>False
def KV{κ:Type}:List (κ×V)→List (κ×Value)→Prop:=Paired fun(p:κ×V) (q:κ×Value)=>p.1=q.1∧RelV p.2 q.2
def kV:e8→V
 |.inl i=>.int i
 |.inr x=>.str x
inductive HO where
 /-- a list -/
 |lst (xs:List V)
 /-- a tuple (never changes) -/
 |tup (xs:List V)
 /-- a dict whose keys are ints and texts;one whose keys are tuples of ints and texts (the empty one is both) -/
 |dK (kvs:List (e8×V)) |dT (kvs:List (List e8×V))
 /-- a set of ints:its members,its size -/
 |set (S:Int→Bool) (n:Nat)
 /-- an instance of the class at C,its dict at dx,its attributes -/
 |ins (C dx:Addr) (fs:List (Str×V))
 /-- the dict of the instance at x -/
 |own (x:Addr)
 /-- the dict of an exception -/
 |xd (fs:List (Str×V))
 /-- a bound method,f of x -/
 |met (f x:Addr)
 /-- a range object lo,lo+1,.. below hi -/
 |rng (lo hi:Int)
 /-- a thing that is known to the object (the script;a dict while a qc walks it):read,never written while it is so -/
 |frz (o:Obj) (u:HO)
 /-- a code object's table -/
 |tbl (q:Str)
 /-- any other thing,by what is true of its one object (a def of one's own:SetO a S n:=HO.ext fun h=> ..) -/
 |ext (φ:Heap→Prop)
abbrev Hp:=Addr→Option HO
def upd(H:Hp)(a:Addr)(o:HO):Hp:=fun b=>if b=a then some o else H b
theorem c_{H:Hp}{a:Addr}{o:HO}:upd H a o a=some o:=by unfold upd;rw[if_pos rfl]
theorem aX{H:Hp}{a b:Addr}{o:HO}(h:b≠a):upd H a o b=H b:=by unfold upd;rw[if_neg h]
theorem BL{H:Hp}{a b:Addr}{o u:HO}(h:H a=some o)(h':H b=some u)(d:o≠u):a≠b:=by
 intro e;subst e;rw[h]at h';exact d (Option.some.inj h')
theorem bY{H:Hp}{a b:Addr}{o:HO}(h:H a=some o)(h':H b=none):a≠b:=by
 intro e;subst e;rw[h]at h';cases h'
section
variable (P:Program) (w:World)
def ObjOk(H:Hp)(h:Heap)(a:Addr):HO→Prop
 |.lst xs=>xs.length≤sizeLine∧∃(its:List Value) (n:Nat),Vals xs its∧h.get? a=some {cls:=.type "list",data:=.seq its.toArray n}
 |.tup xs=>xs.length≤sizeLine∧∃its:List Value,Vals xs its∧IsTup h a its.toArray
 |.dK kvs=>kvs.length≤sizeLine∧(a == sysModules)=false∧∃vs,KV kvs vs∧h.DictOf (mV P w) a vs
 |.dT kvs=>kvs.length≤sizeLine∧(a == sysModules)=false∧∃xs:List (List e8×Addr×Value),
   Paired (fun(p:List e8×V) (q:List e8×Addr×Value)=>p.1=q.1∧H q.2.1=some (.tup (p.1.map kV))∧RelV p.2 q.2.2) kvs xs∧
   ∃o es ep,h.get? a=some o∧o.ExactDict∧o.data=.dict es ep∧es.toList=xs.map (entryOfKey (tupleKind (mV P w)))∧(xs.map (·.1)).Nodup
 |.set S n=>h.SetOf (intKind P w) a S n
 |.ins C dx fs=>H dx=some (.own a)∧fs.length≤1000∧dx≠a∧h.get? a=some (instObj C dx)∧
   ∃mA,h.Ns1 dx mA∧(∀f,RelO (fs.lookup f) (mA f))∧PySem.Within mA (fs.map (·.1))
 |.own _=>∃o,h.get? a=some o
 |.xd fs=>∃mA,h.Ns1 a mA∧∀f,RelO (fs.lookup f) (mA f)
 |.rng lo hi=>∃t u v,h.get? a=some {cls:=.type "range",data:=.fields #[.int lo t,.int hi u,.int 1 v]}
 |.frz o u=>h.get? a=some o∧ObjOk H h a u
 |.tbl q=>∃ps:Array Value,h.get? a=some (tabObj ps)∧TriplesOk ps.toList∧∀pos cv,codeAmong pos ps.toList=some cv→∃c,cv=Value.ref c∧H c=some (.own a)∧h.CodeRec cv q
 |.met f x=>h.get? a=some (methodObj (.ref f) (.ref x))
 |.ext φ=>φ h∧(∃o,h.get? a=some o)∧∀h1 h2:Heap,φ h1→(∀o,h1.get? a=some o→h2.get? a=some o)→φ h2
def HOk(H:Hp)(h:Heap):Prop:=∀a o,H a=some o→ObjOk P w H h a o
end
section
variable {P:Program} {w:World} {H H':Hp} {h h':Heap} {a:Addr} {o:HO}
theorem ObjOk.lt(x:ObjOk P w H h a o):a < h.objs.size:=by
 cases o with
 |lst xs=>obtain⟨_,_,_,_,e⟩:=x;exact gn e
 |tup xs=>obtain⟨_,_,_,p⟩:=x;exact p.lt
 |dK kvs=>obtain⟨_,_,_,_,o,_,_,e,_⟩:=x;exact gn e
 |dT kvs=>obtain⟨_,_,_,_,o,_,_,e,_⟩:=x;exact gn e
 |set S n=>obtain⟨o,_,_,_,e,_⟩:=x;exact gn e
 |ins C dx fs=>obtain⟨_,_,_,e,_⟩:=x;exact gn e
 |own y=>obtain⟨_,e⟩:=x;exact gn e
 |xd fs=>obtain⟨_,⟨_,_,_,e,_⟩,_⟩:=x;exact gn e
 |rng lo hi=>obtain⟨_,_,_,e⟩:=x;exact gn e
 |frz ob u=>obtain⟨e,_⟩:=x;exact gn e
 |tbl q=>obtain⟨_,e,_⟩:=x;exact gn e
 |met f y=>exact gn (show h.get? a=some _ from x)
 |ext φ=>obtain⟨_,⟨_,e⟩,_⟩:=x;exact gn e
theorem Paired.mapP{α β:Type}{F G:α→β→Prop}{l₁:List α}{l₂:List β}(h:Paired F l₁ l₂)(f:∀a b,F a b→G a b):Paired G l₁ l₂:=by
 induction h with
 |nil=>exact .nil
 |cons r _ t=>exact .cons (f _ _ r) t
theorem ObjOk.stay(x:ObjOk P w H h a o)(k:∀b u,(b=a∨H b=some (.own a))→h.get? b=some u→h'.get? b=some u)
  (ho:∀b,H b=some (.own a)→H' b=some (.own a)) (ht:∀b xs,H b=some (.tup xs)→H' b=some (.tup xs)):ObjOk P w H' h' a o:=by
 induction o with
 |lst xs=>obtain⟨z,its,n,r,e⟩:=x;exact⟨z,its,n,r,k _ _ (.inl rfl) e⟩
 |tup xs=>obtain⟨z,its,r,ob,e,c⟩:=x;exact⟨z,its,r,ob,k _ _ (.inl rfl) e,c⟩
 |dK kvs=>obtain⟨z,y,vs,r,ob,es,ep,e,c⟩:=x;exact⟨z,y,vs,r,ob,es,ep,k _ _ (.inl rfl) e,c⟩
 |dT kvs=>
  obtain⟨z,y,xs,r,ob,es,ep,e,c⟩:=x
  exact⟨z,y,xs,Paired.mapP r fun p q z=>⟨z.1,ht _ _ z.2.1,z.2.2⟩,ob,es,ep,k _ _ (.inl rfl) e,c⟩
 |set S n=>obtain⟨ob,es,ep,t,e,c⟩:=x;exact⟨ob,es,ep,t,k _ _ (.inl rfl) e,c⟩
 |ins C dx fs=>
  obtain⟨d,z,ne,e,mA,⟨od,es,ep,e2,c⟩,r⟩:=x
  exact⟨ho _ d,z,ne,k _ _ (.inl rfl) e,mA,⟨od,es,ep,k _ _ (.inr d) e2,c⟩,r⟩
 |own y=>obtain⟨ob,e⟩:=x;exact⟨ob,k _ _ (.inl rfl) e⟩
 |xd fs=>obtain⟨mA,⟨od,es,ep,e,c⟩,r⟩:=x;exact⟨mA,⟨od,es,ep,k _ _ (.inl rfl) e,c⟩,r⟩
 |rng lo hi=>obtain⟨t,u,v,e⟩:=x;exact⟨t,u,v,k _ _ (.inl rfl) e⟩
 |frz ob u ih=>obtain⟨e,q⟩:=x;exact⟨k _ _ (.inl rfl) e,ih q⟩
 |tbl q=>
  obtain⟨ps,e,t,r⟩:=x
  refine⟨ps,k _ _ (.inl rfl) e,t,fun pos cv z=>?_⟩
  obtain⟨c,ec,ho',c2,oc,vs,tq,hc,hoc,hd⟩:=r pos cv z
  subst ec
  cases hc
  exact⟨c,rfl,ho _ ho',c,oc,vs,tq,rfl,k _ _ (.inr ho') hoc,hd⟩
 |met f y=>
  have e:h.get? a=some (methodObj (.ref f) (.ref y)):=x
  show h'.get? a=some (methodObj (.ref f) (.ref y))
  exact k a _ (.inl rfl) e
 |ext φ=>obtain⟨p,⟨o,e⟩,st⟩:=x;exact⟨st _ _ p fun o q=>k _ _ (.inl rfl) q,⟨o,k _ _ (.inl rfl) e⟩,st⟩
theorem HOk.lt(x:HOk P w H h)(e:H a=some o):a < h.objs.size:=(x a o e).lt
theorem HOk.fresh(x:HOk P w H h)(e:h.objs.size≤a):H a=none:=by
 cases q:H a with
 |none=>rfl
 |some u=>exact absurd (lE (x.lt q) e) (Nat.lt_irrefl _)
theorem HOk.kept(x:HOk P w H h)(k:∀b u,h.get? b=some u→h'.get? b=some u):HOk P w H h':=fun a o e=>
 (x a o e).stay (fun b u _ q=>k b u q) (fun _ q=>q) fun _ _ q=>q
theorem HOk.laid(x:HOk P w H h)(k:∀b u,h.get? b=some u→h'.get? b=some u)(hp:h.objs.size≤a)(new:ObjOk P w (upd H a o) h' a o):HOk P w (upd H a o) h':=fun b u e=>by
 have hn:=x.fresh hp
 by_cases hb:b=a
 ·subst hb;rw[c_]at e;cases e;exact new
 ·rw[aX hb]at e
  exact(x b u e).stay (fun c v _ q=>k c v q) (fun c q=>by rw[aX (bY q hn)];exact q) fun c xs q=>by rw[aX (bY q hn)];exact q
end
def Rd(H:Hp)(a:Addr)(u:HO):Prop:=H a=some u∨∃o,H a=some (.frz o u)
theorem Rd.of{H:Hp}{a:Addr}{u:HO}(h:H a=some u):Rd H a u:=.inl h
theorem Rd.ok{P:Program}{w:World}{H:Hp}{h:Heap}{a:Addr}{u:HO}(r:Rd H a u)(x:HOk P w H h):ObjOk P w H h a u:=by
 rcases r with r |⟨o,r⟩
 ·exact x a u r
 ·obtain⟨_,q⟩:=x a _ r
  exact q
def Fb:Option HO→Prop
 |some (.lst _)=>True
 |some (.dK _)=>True
 |some (.dT _)=>True
 |some (.set _ _)=>True
 |some (.ins _ _ _)=>True
 |some (.ext _)=>True
 |_=>False
section
variable {P:Program} {w:World} {H:Hp} {h h':Heap} {x e:Addr} {o':HO}
theorem HOk.write(ok:HOk P w H h)(mu:Fb (H x))(he:e=x∨H e=some (.own x))(k:∀b u,b≠e→h.get? b=some u→h'.get? b=some u)(heo:∃u,h'.get? e=some u)
  (new:ObjOk P w (upd H x o') h' x o'):HOk P w (upd H x o') h':=fun b u q=>by
 have nown:∀c y,H c=some (.own y)→c≠x:=fun c y r z=>by subst z;rw[r]at mu;exact mu
 have ntup:∀c xs,H c=some (.tup xs)→c≠x:=fun c xs r z=>by subst z;rw[r]at mu;exact mu
 by_cases hb:b=x
 ·subst hb;rw[c_]at q;cases q;exact new
 ·rw[aX hb]at q
  by_cases hbe:b=e
  ·have q':H b=some (.own x):=by
    rcases he with z |z
    ·exact absurd (hbe.trans z) hb
    ·rw[hbe];exact z
   rw[q]at q';cases q'
   obtain⟨v,hv⟩:=heo
   exact⟨v,by rw[hbe];exact hv⟩
  ·refine(ok b u q).stay (fun c v hc r=>k c v ?_ r) (fun c r=>by rw[aX (nown c b r)];exact r) fun c xs r=>by rw[aX (ntup c xs r)];exact r
   rcases hc with rfl |hc
   ·exact hbe
   ·rintro rfl
    rcases he with z |z
    ·exact nown c b hc z
    ·rw[hc]at z;cases z;exact hb rfl
end
structure Un (fs ex:List Addr) (H H':Hp) (h h':Heap):Prop where
 keep:∀b o,h.get? b=some o→H b=none→b∉fs→b∉ex→h'.get? b=some o
 slot:∀b o,h.get? b=some o→H b=none→b∈fs→b∉ex→∃sl,h'.get? b=some {o with slots:=sl}
 free:∀b o,h.get? b=some o→H b=none→b∉ex→H' b=none
 there:∀b o,h.get? b=some o→b∉ex→∃o',h'.get? b=some o'
 tups:∀b xs,H b=some (.tup xs)→H' b=some (.tup xs)
 frzs:∀b o u,H b=some (.frz o u)→H' b=some (.frz o u)
 tbls:∀b ps,H b=some (.tbl ps)→H' b=some (.tbl ps)
section
variable {fs fs' ex ex':List Addr} {H H1 H2:Hp} {h h1 h2 h':Heap} {a x e:Addr} {o:HO}
theorem Un.any(u:Un fs ex H H1 h h1){b:Addr}{ob:Obj}(q:h.get? b=some ob)(n:H b=none)(hx:b∉ex):∃sl,h1.get? b=some {ob with slots:=sl}:=by
 by_cases hb:b∈fs
 ·exact u.slot b ob q n hb hx
 ·exact⟨ob.slots,u.keep b ob q n hb hx⟩
theorem Un.kept(k:∀b u,h.get? b=some u→h'.get? b=some u):Un fs ex H H h h':=
 ⟨fun b ob q _ _ _=>k b ob q,fun b ob q _ _ _=>⟨ob.slots,k b ob q⟩,fun _ _ _ n _=>n,fun b ob q _=>⟨ob,k b ob q⟩,fun _ _ q=>q,fun _ _ _ q=>q,fun _ _ q=>q⟩
theorem Un.refl:Un fs ex H H h h:=Un.kept fun _ _ q=>q
theorem Un.laid(k:∀b u,h.get? b=some u→h'.get? b=some u)(hp:h.objs.size≤a)(hn:H a=none):Un fs ex H (upd H a o) h h' where
 keep:=fun b u q _ _ _=>k b u q
 slot:=fun b u q _ _ _=>⟨u.slots,k b u q⟩
 free:=fun b u q n _=>by rw[aX (gK (lE (gn q) hp))];exact n
 there:=fun b u q _=>⟨u,k b u q⟩
 tups:=fun b xs q=>by rw[aX (bY q hn)];exact q
 frzs:=fun b u xs q=>by rw[aX (bY q hn)];exact q
 tbls:=fun b ps q=>by rw[aX (bY q hn)];exact q
theorem Un.write(mu:Fb (H x))(he:e=x∨H e=some (.own x))(k:∀b u,b≠e→h.get? b=some u→h'.get? b=some u)(heo:∃u,h'.get? e=some u):Un fs ex H (upd H x o) h h':=by
 have hx:∀b,H b=none→b≠x:=fun b n z=>by subst z;rw[n]at mu;exact mu
 have hb:∀b,H b=none→b≠e:=fun b n z=>by
  subst z
  rcases he with r |r
  ·exact hx b n r
  ·rw[n]at r;cases r
 have hm:∀b u,H b=some u→¬Fb (some u)→b≠x:=fun b u q nm z=>by subst z;rw[q]at mu;exact nm mu
 refine⟨fun b u q n _ _=>k b u (hb b n) q,fun b u q n _ _=>⟨u.slots,k b u (hb b n) q⟩,fun b u q n _=>by rw[aX (hx b n)];exact n,fun b u q _=>?_,
  fun b xs q=>by rw[aX (hm b _ q fun z=>z)];exact q,fun b u xs q=>by rw[aX (hm b _ q fun z=>z)];exact q,fun b ps q=>by rw[aX (hm b _ q fun z=>z)];exact q⟩
 by_cases hbe:b=e
 ·subst hbe;exact heo
 ·exact⟨u,k b u hbe q⟩
end
def Fc(h:Heap)(H:Hp):List Addr:=(List.range h.objs.size).filter fun a=>(H a).isSome
def rP(h:Heap)(H:Hp):Heap:=PySem.W.hideAll h (Fc h H)
theorem wf(h:Heap)(H:Hp):(rP h H).objs.size=h.objs.size:=PySem.W.hideAll_size _ _
theorem m9{h:Heap}{H:Hp}{b:Addr}{o:Obj}(e:h.get? b=some o)(n:H b=none):(rP h H).get? b=some o:=
 PySem.W.hideAll_get _ e fun hm=>by
  have q:(H b).isSome=true:=(List.mem_filter.mp hm).2
  rw[n]at q;simp at q
theorem zW{h:Heap}{H:Hp}{b:Addr}{o:Obj}(e:(rP h H).get? b=some o):h.get? b=some o∧H b=none:=by
 have e':h.get? b=some o:=PySem.W.of_hideAll (Fc h H) e
 refine⟨e',?_⟩
 cases q:H b with
 |none=>rfl
 |some x=>
  have hm:b∈Fc h H:=List.mem_filter.mpr ⟨List.mem_range.mpr (gn e'),by simp[q]⟩
  have z:(rP h H).get? b=none:=PySem.W.hideAll_none (Fc h H) hm
  rw[z]at e;cases e
def zX(g h:Heap)(L:Addr):List (Addr×Obj):=(List.range h.objs.size).filterMap fun a=>if a=L∨(g.get? a).isSome=true then none else (h.get? a).map fun o=>(a,o)
def aU(g h:Heap)(L d:Addr):List (Addr×Obj):=(zX g h L).filter fun p=>decide (p.1≠d)
end L2
namespace L2
open PySem PySem.Spec PyProof.Rows
def xI(K:Frag):Option Addr:=match nsIn K mainGlobals "in_told_order" with
 |some (some (.ref f))=>match K.lookup f with
  |some ⟨_,_,.func fd,_⟩=>match fd.code with
   |.ref c=>match K.lookup c with
    |some ⟨_,_,.fields vs,_⟩=>match (vs[11]? :Option Value)with
     |some (.ref P)=>some P
     |_=>none
    |_=>none
   |_=>none
  |_=>none
 |_=>none
def mN(K:Frag)(b:Addr):Option Str:=if xI K=some b then some (Str.ofString "in_told_order.<locals>.<lambda>")else none
structure Mod (K:Frag) (mg:Str→Option Value) (base:Heap):Prop where
 kin:K.In base
 glob:base.Ns mainGlobals mg
 blt:∃mb,base.Ns builtinsNs mb∧∀x:Str,x≠"__name__"→mb x=bootBuiltins x
 nolimit:base.NoLimit
 bmain:∃bm ob,mg "__builtins__"=some (.ref bm)∧bm≠builtinsNs∧base.get? bm=some ob∧ob.cls=.type "module"∧ob.dict=some builtinsNs∧ob.data=.plain
structure Cx where
 prog:Program
 w:World
 K:Frag
 mg:Str→Option Value
 base:Heap
 A:Around
 N:List Str
 s₀:Shared
 H₀:Hp
 env:Env
 outer:List Env
 stack:List Env
 ex:List Addr
 fn:Str→Bool
 calm:Bool
 pn:List (Addr×Obj)
 xe:Value→Shared→Prop
def xG(l:List Env):List Addr:=l.filterMap (·.frame)
abbrev Cx.fs(X:Cx):List Addr:=xG X.outer
def zS(sc:Scope)(x:Str):Prop:=sc.names.lookup x=some .local∨sc.names.lookup x=some .cell∨sc.names.lookup x=some .free
def BM(sc:Scope)(x:Str):Prop:=sc.names.lookup x=some .local∨sc.names.lookup x=some .cell
def Fi(env:Env)(h:Heap)(m:Str→Option Value)(x:Str)(u:Value):Prop:=
 (env.kindOf x=some .local∧m x=some u)∨((env.kindOf x=some .cell∨env.kindOf x=some .free)∧∃c,env.cells.lookup x=some c∧h.IsCell c (some u))
structure Cx.Ok (X:Cx):Prop where
 mod:Mod X.K X.mg X.base
 kind:X.env.scope.kind=.function
 glob:X.env.globals=mainGlobals
 blt:X.env.builtins=builtinsNs
 above:X.s₀.heap.objs.size≤X.env.locals
 inj:∀x y c,X.env.cells.lookup x=some c→X.env.cells.lookup y=some c→x=y
 has:∀x,(X.env.kindOf x=some .cell∨X.env.kindOf x=some .free)→∃c,X.env.cells.lookup x=some c
 cab:∀x c,X.fn x=true→X.env.cells.lookup x=some c→X.s₀.heap.objs.size≤c
 hd:X.calm=true→X.A.handled=none
 frames:X.A.frames=some X.stack
 stk:X.stack=X.outer∨(X.stack=X.env::X.outer∧X.env.frame=some X.env.locals)
 exf:∀b∈X.ex,b≠X.env.locals∧∀x c,X.env.cells.lookup x=some c→c≠b
 bs:∀b o,X.base.get? b=some o→X.s₀.heap.get? b=some o∧X.H₀ b=none
 bsz:X.base.objs.size≤X.s₀.heap.objs.size
 noex:∀b o,X.base.get? b=some o→b∉X.ex
 exfs:∀b∈X.ex,b∉X.fs
 funs:X.s₀.heap.FunFrames X.base X.outer
 frf:∀b∈X.fs,X.H₀ b=none
 tab:∀b q,mN X.K b=some q→X.H₀ b=some (.tbl q)
structure Inv (X:Cx) (pins:List (Addr×Obj)) (σ:List (Option V)) (H:Hp) (s:Shared):Prop where
 ok:X.Ok
 os:s.os=X.s₀.os
 bare:AllBare s.gens
 base:Un X.fs X.ex X.H₀ H X.s₀.heap s.heap
 loc:∃m,s.heap.Ns X.env.locals m∧∀(i:Nat) (x:Str) (v:V),X.N[i]? =some x→σ[i]? =some (some v)→zS X.env.scope x→∃u,RelV v u∧Fi X.env s.heap m x u
 cell:∀x c,X.env.cells.lookup x=some c→∃v,s.heap.IsCell c v
 free:H X.env.locals=none
 freeC:∀x c,X.env.cells.lookup x=some c→H c=none
 pin:∀p∈X.pn++pins,s.heap.get? p.1=some p.2∧H p.1=none∧p.1≠X.env.locals∧p.1∉X.fs∧∀v,p.2.data≠ .cell v
 hok:HOk X.prog X.w H s.heap
 len:σ.length=X.N.length
section
variable {X:Cx} {pins:List (Addr×Obj)} {σ:List (Option V)} {H H':Hp} {s:Shared} {h':Heap}
theorem Cx.Ok.nofr(ok:X.Ok){b:Addr}{o:Obj}(e:X.base.get? b=some o):b∉X.fs:=fun hb=>by
 have:=(ok.funs.mem hb).1
 rw[e]at this;cases this
theorem Inv.bs(I:Inv X pins σ H s):∀b o,X.base.get? b=some o→s.heap.get? b=some o∧H b=none:=fun b o e=>
 ⟨I.base.keep b o (I.ok.bs b o e).1 (I.ok.bs b o e).2 (I.ok.nofr e) (I.ok.noex b o e),I.base.free b o (I.ok.bs b o e).1 (I.ok.bs b o e).2 (I.ok.noex b o e)⟩
theorem Inv.bk(I:Inv X pins σ H s):∀b o,X.base.get? b=some o→s.heap.get? b=some o:=fun b o e=>(I.bs b o e).1
theorem Inv.mod(I:Inv X pins σ H s):Mod X.K X.mg X.base:=I.ok.mod
theorem Inv.tab(I:Inv X pins σ H s):∀b q,mN X.K b=some q→H b=some (.tbl q):=fun b q e=>I.base.tbls b q (I.ok.tab b q e)
theorem Inv.kIn(I:Inv X pins σ H s):X.K.In s.heap:=I.ok.mod.kin.keeps I.bk
theorem Inv.nolimit(I:Inv X pins σ H s):s.heap.NoLimit:=I.ok.mod.nolimit.keeps I.bk
theorem Inv.fr(I:Inv X pins σ H s):∃m,Fr X.base X.env.locals s.heap m:=
 let ⟨m,hn,_⟩:=I.loc
 ⟨m,hn,I.bk,jK I.ok.bsz I.ok.above⟩
theorem Inv.lt(I:Inv X pins σ H s):X.env.locals < s.heap.objs.size:=let ⟨_,hn,_⟩:=I.loc;hn.lt
theorem Inv.sz(I:Inv X pins σ H s):X.s₀.heap.objs.size≤s.heap.objs.size:=jK I.ok.above (jV I.lt)
theorem Inv.nofs(I:Inv X pins σ H s){a:Addr}(h:s.heap.objs.size≤a):a∉X.fs:=fun hb=>by
 obtain⟨_,o,ho,_⟩:=I.ok.funs.mem hb
 exact absurd (lE (gn ho) (jK I.sz h)) (Nat.lt_irrefl _)
theorem Inv.cne(I:Inv X pins σ H s):∀x c,X.env.cells.lookup x=some c→c≠X.env.locals:=fun x c e z=>by
 obtain⟨v,o,ho,hd⟩:=I.cell x c e
 obtain⟨m,⟨o',es,ep,ho',hd',_⟩,_⟩:=I.loc
 rw[z,ho']at ho;cases ho;rw[hd']at hd;cases hd
theorem Inv.funs(I:Inv X pins σ H s):s.heap.FunFrames X.base X.outer:=by
 have all:∀(l:List Env),(∀b∈xG l,b∈X.fs)→X.s₀.heap.FunFrames X.base l→s.heap.FunFrames X.base l:=by
  intro l
  induction l with
  |nil=>intro _ _;trivial
  |cons env r ih=>
   intro hs hl
   obtain⟨hk,⟨L,o,hf,hn,ho,hd⟩,hr⟩:=hl
   have hL:L∈X.fs:=hs L (by unfold xG;rw[List.filterMap_cons,hf];exact ir)
   obtain⟨sl,e⟩:=I.base.slot L o ho (I.ok.frf L hL) hL fun z=>I.ok.exfs L z hL
   exact⟨hk,⟨L,_,hf,hn,e,hd⟩,ih (fun b hb=>hs b (by unfold xG;rw[List.filterMap_cons,hf];exact g6 _ hb)) hr⟩
 exact all X.outer (fun _ hb=>hb) I.ok.funs
theorem Inv.stack(I:Inv X pins σ H s):s.heap.FunFrames X.base X.stack:=by
 rcases I.ok.stk with e |⟨e,hf⟩
 ·rw[e];exact I.funs
 ·rw[e]
  obtain⟨m,hn,_⟩:=I.loc
  refine .cons (by rw[I.ok.kind];decide) hf hn ?_ I.funs
  exact Heap.get?_none_of_le (jK I.ok.bsz I.ok.above)
theorem Inv.stkSub(I:Inv X pins σ H s):∀b∈xG X.stack,b∈X.env.locals::X.fs:=fun b hb=>by
 rcases I.ok.stk with e |⟨e,hf⟩
 ·rw[e]at hb;exact g6 _ hb
 ·rw[e]at hb
  unfold xG at hb
  rw[List.filterMap_cons,hf]at hb
  exact hb
theorem Inv.stkFree(I:Inv X pins σ H s):∀b∈xG X.stack,H b=none:=fun b hb=>by
 rcases Zaq.mp (I.stkSub b hb)with e |hb
 ·rw[e];exact I.free
 ·obtain⟨_,o,ho,_⟩:=I.ok.funs.mem hb
  exact I.base.free b o ho (I.ok.frf b hb) fun z=>I.ok.exfs b z hb
theorem Inv.step{g':Array GenState}{t':Nat}{d':Drawn}{ch:List Addr}(I:Inv X pins σ H s)
  (hch:∀b∈ch,(b∈X.ex∨X.s₀.heap.objs.size≤b)∧b≠X.env.locals∧(∀x c,X.env.cells.lookup x=some c→c≠b)∧∀p∈X.pn++pins,p.1≠b)
  (keep:∀b o,b≠X.env.locals→b∉X.fs→b∉ch→s.heap.get? b=some o→H b=none→h'.get? b=some o)
  (slot:∀b o,b≠X.env.locals→b∈X.fs→b∉ch→s.heap.get? b=some o→H b=none→∃sl,h'.get? b=some {o with slots:=sl}) (free:∀b o,b∉ch→s.heap.get? b=some o→H b=none→H' b=none)
  (there:∀b o,b∉ch→s.heap.get? b=some o→∃o',h'.get? b=some o')
  (tups:∀b xs,H b=some (.tup xs)→H' b=some (.tup xs)) (frzs:∀b o u,H b=some (.frz o u)→H' b=some (.frz o u)) (tbls:∀b ps,H b=some (.tbl ps)→H' b=some (.tbl ps))
  (ns:∀m,s.heap.Ns X.env.locals m→h'.Ns X.env.locals m) (hok:HOk X.prog X.w H' h') (hg:AllBare g'):
  Inv X pins σ H' {s with heap:=h',gens:=g',drawn:=d',toks:=t'}:=by
 have neL:∀b o,X.s₀.heap.get? b=some o→b≠X.env.locals:=fun b o e=>gK (lE (gn e) I.ok.above)
 have neC:∀b o,X.s₀.heap.get? b=some o→b∉X.ex→b∉ch:=fun b o e hx hb=>by
  rcases(hch b hb).1 with z |z
  ·exact hx z
  ·exact absurd (lE (gn e) z) (Nat.lt_irrefl _)
 have cellK:∀x c,X.env.cells.lookup x=some c→∀v,s.heap.IsCell c v→h'.IsCell c v:=fun x c e v ⟨o,ho,hd⟩=>by
  have nch:c∉ch:=fun z=>(hch c z).2.2.1 x c e rfl
  by_cases hc:c∈X.fs
  ·obtain⟨sl,q⟩:=slot c o (I.cne x c e) hc nch ho (I.freeC x c e)
   exact⟨_,q,hd⟩
  ·exact⟨o,keep c o (I.cne x c e) hc nch ho (I.freeC x c e),hd⟩
 refine⟨I.ok,I.os,hg,⟨fun b o e n hb hx=>?_,fun b o e n hb hx=>?_,fun b o e n hx=>?_,fun b o e hx=>?_,fun b xs e=>tups b xs (I.base.tups b xs e),fun b o xs e=>frzs b o xs (I.base.frzs b o xs e),fun b ps e=>?_⟩,?_,fun x c e=>?_,?_,fun x c e=>?_,fun p hp=>?_,hok,I.len⟩
 ·exact keep b o (neL b o e) hb (neC b o e hx) (I.base.keep b o e n hb hx) (I.base.free b o e n hx)
 ·obtain⟨sl,e1⟩:=I.base.slot b o e n hb hx
  obtain⟨sl',e2⟩:=slot b _ (neL b o e) hb (neC b o e hx) e1 (I.base.free b o e n hx)
  exact⟨sl',e2⟩
 ·obtain⟨o',e1⟩:=I.base.there b o e hx
  exact free b o' (neC b o e hx) e1 (I.base.free b o e n hx)
 ·obtain⟨o',e1⟩:=I.base.there b o e hx
  exact there b o' (neC b o e hx) e1
 ·exact tbls b _ (I.base.tbls b ps e)
 ·obtain⟨m,hn,hl⟩:=I.loc
  refine⟨m,ns m hn,fun i x v e1 e2 e3=>?_⟩
  obtain⟨u,r,l⟩:=hl i x v e1 e2 e3
  refine⟨u,r,?_⟩
  rcases l with l |⟨k,c,e,z⟩
  ·exact .inl l
  ·exact .inr ⟨k,c,e,cellK x c e _ z⟩
 ·obtain⟨v,z⟩:=I.cell x c e
  exact⟨v,cellK x c e v z⟩
 ·obtain⟨m,⟨o,_,_,ho,_⟩,_⟩:=I.loc
  exact free _ o (fun z=>(hch _ z).2.1 rfl) ho I.free
 ·obtain⟨v,o,ho,hd⟩:=I.cell x c e
  exact free c o (fun z=>(hch c z).2.2.1 x c e rfl) ho (I.freeC x c e)
 ·obtain⟨e,n,ne,nf,d⟩:=I.pin p hp
  have nch:p.1∉ch:=fun z=>(hch p.1 z).2.2.2 p hp rfl
  exact⟨keep p.1 p.2 ne nf nch e n,free p.1 p.2 nch e n,ne,nf,d⟩
theorem Inv.un{t':Nat}(I:Inv X pins σ H s)(u:Un X.fs [] H H' s.heap h')(hok:HOk X.prog X.w H' h'):Inv X pins σ H' {s with heap:=h',toks:=t'}:=by
 obtain⟨m,⟨o,es,ep,ho,r⟩,_⟩:=id I.loc
 obtain⟨sl,hL⟩:=u.any ho I.free (by simp)
 exact I.step (g':=s.gens) (d':=s.drawn) (ch:=[]) (fun _ z=>nomatch z) (fun b o _ hb _ e n=>u.keep b o e n hb (by simp)) (fun b o _ hb _ e n=>u.slot b o e n hb (by simp)) (fun b o _ e n=>u.free b o e n (by simp)) (fun b o _ e=>u.there b o e (by simp)) u.tups u.frzs u.tbls (fun m' hm=>by
  obtain⟨o',es',ep',ho',r'⟩:=hm
  rw[ho]at ho';cases ho'
  exact⟨_,es',ep',hL,r'⟩) hok I.bare
theorem Inv.call{g':Array GenState}{t':Nat}{d':Drawn}{ch:List Addr}(I:Inv X pins σ H s)(u:Un (xG X.stack) ch H H' s.heap h')(hok:HOk X.prog X.w H' h')(hg:AllBare g')
  (hch:∀b∈ch,(b∈X.ex∨X.s₀.heap.objs.size≤b)∧b≠X.env.locals∧(∀x c,X.env.cells.lookup x=some c→c≠b)∧∀p∈X.pn++pins,p.1≠b):
  Inv X pins σ H' {s with heap:=h',gens:=g',drawn:=d',toks:=t'}:=by
 obtain⟨m,⟨o,es,ep,ho,r⟩,_⟩:=id I.loc
 obtain⟨sl,hL⟩:=u.any ho I.free fun z=>(hch _ z).2.1 rfl
 exact I.step (ch:=ch) hch (fun b o hL hb hc e n=>u.keep b o e n (fun z=>(Zaq.mp (I.stkSub b z)).elim hL hb) hc) (fun b o _ _ hc e n=>u.any e n hc) (fun b o hc e n=>u.free b o e n hc) (fun b o hc e=>u.there b o e hc) u.tups u.frzs u.tbls (fun m' hm=>by
  obtain⟨o',es',ep',ho',r'⟩:=hm
  rw[ho]at ho';cases ho'
  exact⟨_,es',ep',hL,r'⟩) hok hg
theorem Inv.turned{t':Nat}{it:Addr}(I:Inv X pins σ H s)(k:∀b o,b≠it→s.heap.get? b=some o→h'.get? b=some o)(hn:H it=none)(hL:it≠X.env.locals)
  (h1:it∈X.ex∨X.s₀.heap.objs.size≤it) (h2:∀x c,X.env.cells.lookup x=some c→c≠it) (h3:∀p∈X.pn++pins,p.1≠it):Inv X pins σ H {s with heap:=h',toks:=t'}:=by
 have nit:∀b u,H b=some u→b≠it:=fun b u e z=>by rw[z,hn]at e;cases e
 refine I.step (g':=s.gens) (d':=s.drawn) (ch:=[it]) (fun b hb=>?_) (fun b o _ _ hc e _=>k b o (fun z=>hc (by simp[z])) e) (fun b o _ _ hc e _=>⟨o.slots,k b o (fun z=>hc (by simp[z])) e⟩) (fun _ _ _ _ n=>n)
  (fun b o hc e=>⟨o,k b o (fun z=>hc (by simp[z])) e⟩) (fun _ _ e=>e) (fun _ _ _ e=>e) (fun _ _ e=>e) (fun m hm=>?_) (fun b u e=>?_) I.bare
 ·have e:b=it:=by simpa using hb
  subst e
  exact⟨h1,hL,h2,h3⟩
 ·obtain⟨o,es,ep,ho,r⟩:=hm
  exact⟨o,es,ep,k _ o (Ne.symm hL) ho,r⟩
 ·refine(I.hok b u e).stay (fun c v hc q=>k c v ?_ q) (fun _ q=>q) fun _ _ q=>q
  rcases hc with z |z
  ·rw[z];exact nit b u e
  ·exact nit c _ z
theorem Inv.tok(I:Inv X pins σ H s)(t:Nat):Inv X pins σ H {s with toks:=t}:=I.un (h':=s.heap) (t':=t) Un.refl I.hok
theorem Inv.kept{t':Nat}(I:Inv X pins σ H s)(k:∀b u,s.heap.get? b=some u→h'.get? b=some u):Inv X pins σ H {s with heap:=h',toks:=t'}:=I.un (Un.kept k) (I.hok.kept k)
theorem Inv.laid{a:Addr}{o:HO}{t':Nat}(I:Inv X pins σ H s)(k:∀b u,s.heap.get? b=some u→h'.get? b=some u)(hp:s.heap.objs.size≤a)(new:ObjOk X.prog X.w (upd H a o) h' a o):
  Inv X pins σ (upd H a o) {s with heap:=h',toks:=t'}:=I.un (Un.laid k hp (I.hok.fresh hp)) (I.hok.laid k hp new)
theorem Inv.write{x e:Addr}{o:HO}{t':Nat}(I:Inv X pins σ H s)(mu:Fb (H x))(he:e=x∨H e=some (.own x))(k:∀b u,b≠e→s.heap.get? b=some u→h'.get? b=some u)(heo:∃u,h'.get? e=some u)
  (new:ObjOk X.prog X.w (upd H x o) h' x o):Inv X pins σ (upd H x o) {s with heap:=h',toks:=t'}:=I.un (Un.write mu he k heo) (I.hok.write mu he k heo new)
theorem Inv.pins_of{pins':List (Addr×Obj)}(I:Inv X pins σ H s)(h:∀p∈pins',s.heap.get? p.1=some p.2∧H p.1=none∧p.1≠X.env.locals∧p.1∉X.fs∧∀v,p.2.data≠ .cell v):Inv X pins' σ H s:=
 ⟨I.ok,I.os,I.bare,I.base,I.loc,I.cell,I.free,I.freeC,fun p hp=>(Zan.mp hp).elim (fun z=>I.pin p (List.mem_append_left _ z)) (h p),I.hok,I.len⟩
theorem rQ{N:List Str}(hN:N.Nodup){i j:Nat}{x:Str}(a:N[i]? =some x)(b:N[j]? =some x):i=j:=by
 obtain⟨h1,e1⟩:=List.getElem?_eq_some_iff.mp a
 obtain⟨h2,e2⟩:=List.getElem?_eq_some_iff.mp b
 exact(List.getElem_inj hN).mp (e1.trans e2.symm)
theorem wg{M:Model}{A:Around}{E:Value→Shared→Prop}{i:Nat}{x:Str}{v:V}{u:Value}{Q:Unit→Shared→Prop}(I:Inv X pins σ H s)(hN:X.N.Nodup)(hi:X.N[i]? =some x)(hx:BM X.env.scope x)(r:RelV v u)
  (h:∀s',Inv X pins (σ.set i (some v)) H s'→(∃a,Heap.SameBut a s.heap s'.heap∧(a=X.env.locals∨X.env.cells.lookup x=some a))→Q () s') (hf:X.fn x=true∨X.env.scope.names.lookup x=some .local:=by first |exact .inl rfl |exact .inr rfl |assumption):wpAny M A (storeName X.env x u) Q E s:=by
 obtain⟨m,hn,hl⟩:=id I.loc
 have hcls:(X.env.scope.kind ==.class||(X.env.scope.kind ==.module&&X.env.locals != X.env.globals))=false:=by rw[I.ok.kind];rfl
 have hiσ:i < σ.length:=by rw[I.len];exact(List.getElem?_eq_some_iff.mp hi).1
 have cne:=I.cne
 have tracked:∀{a:Addr} {h':Heap},(∃o,s.heap.get? a=some o∧H a=none)→Heap.SameBut a s.heap h'→HOk X.prog X.w H h':=fun {a h'} ha hs b ob e=>by
  obtain⟨_,_,hfree⟩:=ha
  refine(I.hok b ob e).stay (fun c w' hc q=>(hs.2 c ?_).trans q) (fun _ q=>q) fun _ _ q=>q
  rintro rfl
  rcases hc with rfl |hc
  ·rw[hfree]at e;cases e
  ·rw[hfree]at hc;cases hc
 rcases hx with hk |hk
 ·refine wpAny_storeName_local hk hn (fun h' hn' hs=>?_) hcls
  obtain⟨oL,_,_,hoL,_⟩:=id hn
  refine h _ ⟨I.ok,I.os,I.bare,⟨fun b o e n hb hx=>?_,fun b o e n hb hx=>?_,I.base.free,fun b o e hx=>?_,I.base.tups,I.base.frzs,I.base.tbls⟩,⟨_,hn',fun j y v' e1 e2 e3=>?_⟩,fun y c e=>?_,I.free,I.freeC,fun p hp=>?_,tracked ⟨oL,hoL,I.free⟩ hs,by simpa using I.len⟩ ⟨_,hs,.inl rfl⟩
  ·exact(hs.2 b (gK (lE (gn e) I.ok.above))).trans (I.base.keep b o e n hb hx)
  ·obtain⟨sl,e1⟩:=I.base.slot b o e n hb hx
   exact⟨sl,(hs.2 b (gK (lE (gn e) I.ok.above))).trans e1⟩
  ·obtain⟨o',e1⟩:=I.base.there b o e hx
   exact⟨o',(hs.2 b (gK (lE (gn e) I.ok.above))).trans e1⟩
  ·by_cases hj:j=i
   ·subst hj
    rw[hi]at e1;cases e1
    rw[List.getElem?_set_self hiσ]at e2
    cases e2
    exact⟨u,r,.inl ⟨hk,by simp⟩⟩
   ·rw[List.getElem?_set_ne (Ne.symm hj)]at e2
    obtain⟨u',r',q⟩:=hl j y v' e1 e2 e3
    refine⟨u',r',?_⟩
    rcases q with⟨k,e⟩ |⟨k,c,e,z⟩
    ·refine .inl ⟨k,?_⟩
     have:y≠x:=fun e=>hj (rQ hN e1 (e▸hi))
     simp[this,e]
    ·exact .inr ⟨k,c,e,z.sameBut hs (cne y c e)⟩
  ·obtain⟨w',z⟩:=I.cell y c e
   exact⟨w',z.sameBut hs (cne y c e)⟩
  ·obtain⟨e,n,ne,nf,d⟩:=I.pin p hp
   exact⟨(hs.2 p.1 ne).trans e,n,ne,nf,d⟩
 ·have hfn:X.fn x=true:=by
   rcases hf with z |z
   ·exact z
   ·rw[z]at hk;cases hk
  obtain⟨c,hc⟩:=I.ok.has x (.inl hk)
  obtain⟨w',z⟩:=I.cell x c hc
  refine wpAny_storeName_cell I.ok.kind hk hc z (fun h' hc' hs=>?_)
  obtain⟨oc,hoc,hocd⟩:=id z
  refine h {s with heap:=h'} ⟨I.ok,I.os,I.bare,⟨fun b o e n hb hx=>?_,fun b o e n hb hx=>?_,I.base.free,fun b o e hx=>?_,I.base.tups,I.base.frzs,I.base.tbls⟩,⟨m,hn.sameBut hs (Ne.symm (cne x c hc)),fun j y v' e1 e2 e3=>?_⟩,fun y c' e=>?_,I.free,I.freeC,fun p hp=>?_,tracked ⟨oc,hoc,I.freeC x c hc⟩ hs,by simpa using I.len⟩ ⟨c,hs,.inr hc⟩
  ·exact(hs.2 b (gK (lE (gn e) (I.ok.cab x c hfn hc)))).trans (I.base.keep b o e n hb hx)
  ·obtain⟨sl,e1⟩:=I.base.slot b o e n hb hx
   exact⟨sl,(hs.2 b (gK (lE (gn e) (I.ok.cab x c hfn hc)))).trans e1⟩
  ·obtain⟨o',e1⟩:=I.base.there b o e hx
   exact⟨o',(hs.2 b (gK (lE (gn e) (I.ok.cab x c hfn hc)))).trans e1⟩
  ·by_cases hj:j=i
   ·subst hj
    rw[hi]at e1;cases e1
    rw[List.getElem?_set_self hiσ]at e2
    cases e2
    exact⟨u,r,.inr ⟨.inl hk,c,hc,hc'⟩⟩
   ·rw[List.getElem?_set_ne (Ne.symm hj)]at e2
    obtain⟨u',r',q⟩:=hl j y v' e1 e2 e3
    refine⟨u',r',?_⟩
    rcases q with q |⟨k,c',e,z'⟩
    ·exact .inl q
    ·refine .inr ⟨k,c',e,z'.sameBut hs ?_⟩
     rintro rfl
     exact hj (rQ hN e1 (I.ok.inj _ _ _ e hc▸hi))
  ·by_cases hcc:c'=c
   ·subst hcc;exact⟨_,hc'⟩
   ·obtain⟨w2,z2⟩:=I.cell y c' e
    exact⟨w2,z2.sameBut hs hcc⟩
  ·obtain⟨e,n,ne,nf,d⟩:=I.pin p hp
   refine⟨(hs.2 p.1 ?_).trans e,n,ne,nf,d⟩
   intro q
   rw[q,hoc]at e
   have q':oc=p.2:=Option.some.inj e
   exact d w' (by rw[←q'];exact hocd)
theorem m_{M:Model}{A:Around}{E:Value→Shared→Prop}{i:Nat}{x:Str}{v:V}{u:Value}{Q:Unit→Shared→Prop}(I:Inv X pins σ H s)(hN:X.N.Nodup)(hi:X.N[i]? =some x)(hx:BM X.env.scope x)(r:RelV v u)
  (h:∀s',Inv X pins (σ.set i (some v)) H s'→Q () s') (hf:X.fn x=true∨X.env.scope.names.lookup x=some .local:=by first |exact .inl rfl |exact .inr rfl |assumption):wpAny M A (storeName X.env x u) Q E s:=
 wg I hN hi hx r (fun s' I' _=>h s' I') hf
theorem Inv.call'{s':Shared}{ch:List Addr}(I:Inv X pins σ H s)(ho:s'.os=s.os)(u:Un (xG X.stack) ch H H' s.heap s'.heap)(hok:HOk X.prog X.w H' s'.heap)(hg:AllBare s'.gens)
  (hch:∀b∈ch,(b∈X.ex∨X.s₀.heap.objs.size≤b)∧b≠X.env.locals∧(∀x c,X.env.cells.lookup x=some c→c≠b)∧∀p∈X.pn++pins,p.1≠b):Inv X pins σ H' s':=by
 obtain⟨h',g',d',t',o'⟩:=s'
 have e:o'=s.os:=ho
 subst e
 exact I.call (g':=g') (t':=t') (d':=d') u hok hg hch
end
abbrev XK:=Value→Option Addr→Hp→Prop
abbrev St:=List (Option V)
abbrev VK:=V→Hp→Prop
abbrev TE:=St→Hp→VK→Prop
abbrev TT:=St→Hp→(Bool→Hp→Prop)→Prop
abbrev TA:=St→Hp→(List V→Hp→Prop)→Prop
structure Ends where
 nx:St→Hp→Prop
 rt:VK
 bk:St→Hp→Prop:=fun _ _=>False
 ct:St→Hp→Prop:=fun _ _=>False
abbrev TS:=Ends→St→Hp→Prop
def EP(X:Cx)(pins:List (Addr×Obj))(σ:St)(Q:VK)(u:Value)(s':Shared):Prop:=∃v H',Inv X pins σ H' s'∧RelV v u∧Q v H'
def TP(X:Cx)(pins:List (Addr×Obj))(σ:St)(Q:Bool→Hp→Prop)(b:Bool)(s':Shared):Prop:=∃H',Inv X pins σ H' s'∧Q b H'
def AP(X:Cx)(pins:List (Addr×Obj))(σ:St)(Q:List V→Hp→Prop)(us:List Value)(s':Shared):Prop:=∃vs H',Inv X pins σ H' s'∧Vals vs us∧Q vs H'
def SP(X:Cx)(pins:List (Addr×Obj))(D:Ends)(f:Flow)(s':Shared):Prop:=
 match f with
 |.next=>∃σ' H',Inv X pins σ' H' s'∧D.nx σ' H'
 |.brk=>∃σ' H',Inv X pins σ' H' s'∧D.bk σ' H'
 |.cont=>∃σ' H',Inv X pins σ' H' s'∧D.ct σ' H'
 |.ret u=>∃v σ' H',Inv X pins σ' H' s'∧RelV v u∧D.rt v H'
def PE(X:Cx)(e:Expr)(t:TE):Prop:=
 ∀(pins:List (Addr×Obj)) (s:Shared) (σ:St) (H:Hp) (Q:VK),Inv X pins σ H s→t σ H Q→wpAny (model X.prog X.w) X.A (eval e X.env) (EP X pins σ Q) X.xe s
def PT(X:Cx)(e:Expr)(t:TT):Prop:=
 ∀(pins:List (Addr×Obj)) (s:Shared) (σ:St) (H:Hp) (Q:Bool→Hp→Prop),Inv X pins σ H s→t σ H Q→wpAny (model X.prog X.w) X.A (isTrue e X.env (eval e X.env)) (TP X pins σ Q) X.xe s
def PW(X:Cx)(e:Expr)(t:TT):Prop:=
 ∀(whole:Sem Value) (pins:List (Addr×Obj)) (s:Shared) (σ:St) (H:Hp) (Q:Bool→Hp→Prop),Inv X pins σ H s→t σ H Q→wpAny (model X.prog X.w) X.A (isTrue e X.env whole) (TP X pins σ Q) X.xe s
theorem PW.pt{X:Cx}{e:Expr}{t:TT}(h:PW X e t):PT X e t:=h _
def PA(X:Cx)(es:List Expr)(t:TA):Prop:=
 ∀(pos:Pos) (pins:List (Addr×Obj)) (s:Shared) (σ:St) (H:Hp) (Q:List V→Hp→Prop),Inv X pins σ H s→t σ H Q→wpAny (model X.prog X.w) X.A (spliced (backTo pos (starEach es X.env))) (AP X pins σ Q) X.xe s
def PS(X:Cx)(st:Stmt)(t:TS):Prop:=
 ∀(pins:List (Addr×Obj)) (s:Shared) (σ:St) (H:Hp) (D:Ends),Inv X pins σ H s→t D σ H→wpAny (model X.prog X.w) X.A (exec st X.env) (SP X pins D) X.xe s
def PSs(X:Cx)(st:List Stmt)(t:TS):Prop:=
 ∀(pins:List (Addr×Obj)) (s:Shared) (σ:St) (H:Hp) (D:Ends),Inv X pins σ H s→t D σ H→wpAny (model X.prog X.w) X.A (execs st X.env) (SP X pins D) X.xe s
theorem dJ{α:Type}{t:Sem α}{Q Q':α→Shared→Prop}{M:Model}{A:Around}{E:Value→Shared→Prop}{s:Shared}(h:wpAny M A t Q E s)(hQ:∀a s,Q a s→Q' a s):wpAny M A t Q' E s:=wpAny_mono h hQ fun _ _ x=>x
end L2
namespace L2
open PySem PySem.Spec PyProof.Rows
section
variable {X:Cx}
def xJ(i:Nat):TE:=fun σ H Q=>∃v,σ[i]? =some (some v)∧Q v H
def tC(v:V):TE:=fun _ H Q=>Q v H
theorem nh {i:Nat} {x:Str} {pos:Pos} (hN:X.N[i]? =some x) (hv:zS X.env.scope x) (hd:(x == ("__debug__":Str))=false:=by decide) (hcd:(x == ("__classdict__":Str))=false:=by decide):PE X (.Name x pos) (xJ i):=by
 intro pins s σ H Q I h
 obtain⟨v,e,h⟩:=h
 obtain⟨m,hn,hl⟩:=I.loc
 obtain⟨u,r,l⟩:=hl i x v hN e hv
 have fin:EP X pins σ Q u s:=⟨v,H,I,r,h⟩
 rcases l with⟨hk,hm⟩ |⟨hk,c,hc,hcell⟩
 ·exact wpAny_Name (wpAny_loadName_local I.ok.kind hk hn hm fin) hd
 ·rcases hk with hk |hk
  ·exact wpAny_Name (wpAny_loadName_cell I.ok.kind hk hc hcell fin) hd
  ·exact wpAny_Name (wpAny_loadName_free I.ok.kind hk hc hcell fin hcd) hd
theorem Ck{i j pos}:PE X (.Constant (.int i) j pos) (tC (.int i)):=fun _ _ _ H _ I h=>wpAny_Constant_int ⟨.int i,H,I.tok _,⟨_,rfl⟩,h⟩
theorem DS{b j pos}:PE X (.Constant (.bool b) j pos) (tC (.bl b)):=fun _ _ _ H _ I h=>Constant_bool ⟨.bl b,H,I,rfl,h⟩
theorem xK{x j pos}:PE X (.Constant (.str x) j pos) (tC (.str x)):=fun _ _ _ H _ I h=>Calls.Constant_str ⟨.str x,H,I.tok _,⟨_,rfl⟩,h⟩
def Gl(X:Cx)(x:Str):Prop:=X.env.kindOf x=some .globalImplicit
theorem qd{E:Value→Shared→Prop}{pins:List (Addr×Obj)}{s:Shared}{σ:St}{H:Hp}{x:Str}{u:Value}{pos:Pos}{Q:Value→Shared→Prop}(I:Inv X pins σ H s)(hg:Gl X x)(hm:X.mg x=some u)(h:Q u s)
  (hd:(x == ("__debug__":Str))=false:=by decide):wpAny (model X.prog X.w) X.A (eval (.Name x pos) X.env) Q E s:=
 Calls.Name_function_global I.ok.kind hg (Calls.loadGlobal_global (by rw[I.ok.glob];exact I.mod.glob.keeps I.bk) hm h) hd
theorem jW{E:Value→Shared→Prop}{pins:List (Addr×Obj)}{s:Shared}{σ:St}{H:Hp}{x:Str}{u:Value}{pos:Pos}{Q:Value→Shared→Prop}(I:Inv X pins σ H s)(hg:Gl X x)(hm:X.mg x=none)(hv:bootBuiltins x=some u)(h:Q u s)
  (hn:x≠"__name__":=by decide) (hd:(x == ("__debug__":Str))=false:=by decide):wpAny (model X.prog X.w) X.A (eval (.Name x pos) X.env) Q E s:=by
 obtain⟨mb,h1,h2⟩:=I.mod.blt
 exact Calls.Name_function_global I.ok.kind hg (Calls.loadGlobal_builtin (by rw[I.ok.glob];exact I.mod.glob.keeps I.bk) hm (by rw[I.ok.blt];exact h1.keeps I.bk) ((h2 x hn).trans hv) h) hd
theorem vo {x:Str} {v:V} {u:Value} {pos:Pos} (hg:Gl X x) (hm:X.mg x=some u) (r:RelV v u) (hd:(x == ("__debug__":Str))=false:=by decide):PE X (.Name x pos) (tC v):=
 fun _ _ _ H _ I h=>qd I hg hm ⟨v,H,I,r,h⟩ hd
theorem zY {x:Str} {v:V} {u:Value} {pos:Pos} (hg:Gl X x) (hm:X.mg x=none) (hv:bootBuiltins x=some u) (r:RelV v u) (hn:x≠"__name__":=by decide) (hd:(x == ("__debug__":Str))=false:=by decide):PE X (.Name x pos) (tC v):=
 fun _ _ _ H _ I h=>jW I hg hm hv ⟨v,H,I,r,h⟩ hn hd
variable {a b:Expr} {ta tb:TE} {pos:Pos}
def tB(t:TE):TT:=fun σ H Q=>t σ H fun x H1=>∃c,x=.bl c∧Q c H1
variable {tA tB':TT} {aU:List Expr}
def Fj(t u:TT):TT:=fun σ H Q=>t σ H fun c H1=>if c=true then u σ H1 Q else Q false H1
def FZ(t u:TT):TT:=fun σ H Q=>t σ H fun c H1=>if c=true then Q true H1 else u σ H1 Q
def Fk(t:TT):TT:=fun σ H Q=>t σ H fun c H1=>Q (!c) H1
theorem zZ(ha:PT X a tA):PW X (.BoolOp .And [a] pos) tA:=by
 intro wh pins s σ H Q I h
 refine isTrue_and (dJ (ha pins s σ H Q I h) fun c s1 e=>?_)
 cases c with
 |true=>exact isTrue_and_nil e
 |false=>exact e
theorem Cl(ha:PT X a tA):PW X (.BoolOp .Or [a] pos) tA:=by
 intro wh pins s σ H Q I h
 refine isTrue_or (dJ (ha pins s σ H Q I h) fun c s1 e=>?_)
 cases c with
 |false=>exact isTrue_or_nil e
 |true=>exact e
theorem Cn(ha:PT X a tA)(hb:PW X (.BoolOp .And (b::aU) pos) tB'):PW X (.BoolOp .And (a::b::aU) pos) (Fj tA tB'):=by
 intro wh pins s σ H Q I h
 refine isTrue_and (dJ (ha pins s σ H _ I h) fun c s1 ⟨H1,I1,q1⟩=>?_)
 cases c with
 |true=>exact hb wh pins s1 σ H1 Q I1 q1
 |false=>exact⟨H1,I1,q1⟩
theorem DT(ha:PT X a tA)(hb:PW X (.BoolOp .Or (b::aU) pos) tB'):PW X (.BoolOp .Or (a::b::aU) pos) (FZ tA tB'):=by
 intro wh pins s σ H Q I h
 refine isTrue_or (dJ (ha pins s σ H _ I h) fun c s1 ⟨H1,I1,q1⟩=>?_)
 cases c with
 |true=>exact⟨H1,I1,q1⟩
 |false=>exact hb wh pins s1 σ H1 Q I1 q1
theorem Co(ha:PT X a tA):PT X (.UnaryOp .Not a pos) (Fk tA):=by
 intro pins s σ H Q I h
 exact isTrue_not (ha pins s σ H (fun c H1=>Q (!c) H1) I h)
def DU(ta tb:TE):TE:=fun σ H Q=>ta σ H fun x H1=>∃c,x=.bl c∧if c=true then tb σ H1 Q else Q (.bl false) H1
theorem Cp{op}{t:TE}(h:PE X a t):PE X (.BoolOp op [a] pos) t:=fun pins s σ H Q I hw=>BoolOp_one (h pins s σ H Q I hw)
theorem Cq(ha:PE X a ta)(hb:PE X (.BoolOp .And (b::aU) pos) tb):PE X (.BoolOp .And (a::b::aU) pos) (DU ta tb):=by
 intro pins s σ H Q I h
 refine BoolOp_and (dJ (ha pins s σ H _ I h) fun v s1 ⟨x,H1,I1,r1,q1⟩=>?_)
 obtain⟨c,rfl,q1⟩:=q1
 cases r1
 refine wpAny_truthy_bool ?_
 cases c with
 |true=>exact hb pins s1 σ H1 Q I1 q1
 |false=>exact⟨.bl false,H1,I1,rfl,q1⟩
end
end L2
namespace L2
open PySem PySem.Spec PyProof.Rows
def SqL(K:Frag)(H:Hp)(a:Addr)(xs:List V):Prop:=
 Rd H a (.lst xs)∨
  ∃(o:Obj) (its:Array Value) (n:Nat),K.lookup a=some o∧o.cls=.type "list"∧o.dict=none∧o.data=.seq its n∧its.size≤sizeLine∧Vals xs its.toList
def SqT(K:Frag)(H:Hp)(a:Addr)(xs:List V):Prop:=
 Rd H a (.tup xs)∨
  ∃(o:Obj) (its:Array Value) (n:Nat),K.lookup a=some o∧o.cls=.type "tuple"∧o.data=.seq its n∧its.size≤sizeLine∧Vals xs its.toList
def Fm:Value→Option V
 |.none=>some .non
 |.bool b=>some (.bl b)
 |.int i _=>some (.int i)
 |.str x _=>some (.str x)
 |.bytes b _=>some (.byt b)
 |.float b _=>some (.flt b)
 |.ref a=>some (.ref a)
 |.type n=>some (.ty n)
 |_=>none
theorem RelV.abs{x:V}{u:Value}(r:RelV x u):Fm u=some x:=by
 cases x with
 |non=>cases r;rfl
 |bl _=>cases r;rfl
 |int _=>obtain⟨t,rfl⟩:=r;rfl
 |str _=>obtain⟨t,rfl⟩:=r;rfl
 |byt _=>obtain⟨t,rfl⟩:=r;rfl
 |flt _=>obtain⟨t,rfl⟩:=r;rfl
 |ref _=>cases r;rfl
 |ty _=>cases r;rfl
theorem RelV.inj{x y:V}{u:Value}(r:RelV x u)(q:RelV y u):x=y:=Option.some.inj (r.abs.symm.trans q.abs)
theorem Vals.inj{xs ys:List V}{us:List Value}(h:Vals xs us)(k:Vals ys us):xs=ys:=by
 induction h generalizing ys with
 |nil=>cases k;rfl
 |cons r _ ih=>cases k with |cons r' t'=>rw[r.inj r',ih t']
section
variable {X:Cx} {pins:List (Addr×Obj)} {σ:St} {H:Hp} {s:Shared} {a:Addr} {xs ys:List V}
theorem SqL.of{K:Frag}(h:H a=some (.lst xs)):SqL K H a xs:=.inl (.inl h)
theorem SqT.of{K:Frag}(h:H a=some (.tup xs)):SqT K H a xs:=.inl (.inl h)
theorem Inv.list(I:Inv X pins σ H s)(h:SqL X.K H a xs):∃its:List Value,Vals xs its∧PlainL s.heap a its.toArray∧xs.length≤sizeLine:=by
 rcases h with h |⟨o,its,n,hk,hc,hd,hs,hz,r⟩
 ·obtain⟨z,its,n,r,e⟩:=h.ok I.hok
  exact⟨its,r,⟨_,n,e,rfl,rfl,rfl⟩,z⟩
 ·refine⟨its.toList,r,⟨o,n,I.kIn a o hk,hc,hd,by simpa using hs⟩,?_⟩
  have e:=r.length
  simp only[Zb]at e
  omega
theorem Inv.tuple(I:Inv X pins σ H s)(h:SqT X.K H a xs):∃its:List Value,Vals xs its∧IsTup s.heap a its.toArray∧xs.length≤sizeLine:=by
 rcases h with h |⟨o,its,n,hk,hc,hs,hz,r⟩
 ·obtain⟨z,its,r,p⟩:=h.ok I.hok
  exact⟨its,r,p,z⟩
 ·refine⟨its.toList,r,⟨o,I.kIn a o hk,hc,n,by simpa using hs⟩,?_⟩
  have e:=r.length
  simp only[Zb]at e
  omega
theorem Inv.list_inj(I:Inv X pins σ H s)(h:SqL X.K H a xs)(h':SqL X.K H a ys):xs=ys:=by
 obtain⟨its,r,⟨o,n,e,_,_,d⟩,_⟩:=I.list h
 obtain⟨its',r',⟨o',n',e',_,_,d'⟩,_⟩:=I.list h'
 rw[e]at e';cases e'
 rw[d]at d'
 injection d' with d1 _
 have:its=its':=by simpa using congrArg Array.toList d1
 subst this
 exact r.inj r'
theorem Inv.tuple_inj(I:Inv X pins σ H s)(h:SqT X.K H a xs)(h':SqT X.K H a ys):xs=ys:=by
 obtain⟨its,r,⟨o,e,_,n,d⟩,_⟩:=I.tuple h
 obtain⟨its',r',⟨o',e',_,n',d'⟩,_⟩:=I.tuple h'
 rw[e]at e';cases e'
 rw[d]at d'
 injection d' with d1 _
 have:its=its':=by simpa using congrArg Array.toList d1
 subst this
 exact r.inj r'
end
abbrev Cx.wish(X:Cx)(E:Value→Shared→Prop):Cx:={X with xe:=E}
abbrev Cx.nox(X:Cx):Cx:=X.wish fun _ _=>False
theorem Cx.Ok.wish{X:Cx}(ok:X.Ok)(E:Value→Shared→Prop):(X.wish E).Ok:=
 ⟨ok.mod,ok.kind,ok.glob,ok.blt,ok.above,ok.inj,ok.has,ok.cab,ok.hd,ok.frames,ok.stk,ok.exf,ok.bs,ok.bsz,ok.noex,ok.exfs,ok.funs,ok.frf,ok.tab⟩
theorem Cx.Ok.unwish{X:Cx}{E:Value→Shared→Prop}(ok:(X.wish E).Ok):X.Ok:=
 ⟨ok.mod,ok.kind,ok.glob,ok.blt,ok.above,ok.inj,ok.has,ok.cab,ok.hd,ok.frames,ok.stk,ok.exf,ok.bs,ok.bsz,ok.noex,ok.exfs,ok.funs,ok.frf,ok.tab⟩
section
variable {X:Cx} {pins:List (Addr×Obj)} {σ:St} {H:Hp} {s:Shared} {E:Value→Shared→Prop}
theorem Inv.wish(I:Inv X pins σ H s)(E:Value→Shared→Prop):Inv (X.wish E) pins σ H s:=⟨I.ok.wish E,I.os,I.bare,I.base,I.loc,I.cell,I.free,I.freeC,I.pin,I.hok,I.len⟩
theorem Inv.unwish(I:Inv (X.wish E) pins σ H s):Inv X pins σ H s:=⟨I.ok.unwish,I.os,I.bare,I.base,I.loc,I.cell,I.free,I.freeC,I.pin,I.hok,I.len⟩
theorem SP.unwish{D:Ends}{f:Flow}{s':Shared}(h:SP (X.wish E) pins D f s'):SP X pins D f s':=by
 cases f with
 |next=>obtain⟨σ',H',I,q⟩:=h;exact⟨σ',H',I.unwish,q⟩
 |brk=>obtain⟨σ',H',I,q⟩:=h;exact⟨σ',H',I.unwish,q⟩
 |cont=>obtain⟨σ',H',I,q⟩:=h;exact⟨σ',H',I.unwish,q⟩
 |ret u=>obtain⟨v,σ',H',I,r,q⟩:=h;exact⟨v,σ',H',I.unwish,r,q⟩
theorem PE.nox{e:Expr}{t:TE}(h:PE X.nox e t):PE X e t:=fun pins s σ H Q I hw=>
 wpAny_mono (h pins s σ H Q (I.wish _) hw) (fun _ _ ⟨v,H',I',r,q⟩=>⟨v,H',I'.unwish,r,q⟩) fun _ _ z=>False.elim z
theorem PT.nox{e:Expr}{t:TT}(h:PT X.nox e t):PT X e t:=fun pins s σ H Q I hw=>
 wpAny_mono (h pins s σ H Q (I.wish _) hw) (fun _ _ ⟨H',I',q⟩=>⟨H',I'.unwish,q⟩) fun _ _ z=>False.elim z
theorem PSs.nox{st:List Stmt}{t:TS}(h:PSs X.nox st t):PSs X st t:=fun pins s σ H D I hw=>
 wpAny_mono (h pins s σ H D (I.wish _) hw) (fun _ _ q=>q.unwish) fun _ _ z=>False.elim z
end
section
variable {X:Cx} {st:Stmt} {aU:List Stmt} {t u:TS} {e:Expr} {te:TE} {pos:Pos}
def DV:TS:=fun D σ H=>D.nx σ H
def DW(t u:TS):TS:=fun D σ H=>t {D with nx:=u D} σ H
theorem vp:PSs X [] DV:=fun _ _ σ H _ I h=>wpAny_execs_nil ⟨σ,H,I,h⟩
theorem xL(h1:PS X st t)(h2:PSs X aU u):PSs X (st::aU) (DW t u):=by
 intro pins s σ H D I h
 refine wpAny_execs_cons (dJ (h1 pins s σ H {D with nx:=u D} I h) fun f s1 q=>?_)
 cases f with
 |next=>
  obtain⟨σ',H',I',q⟩:=q
  exact h2 pins s1 σ' H' D I' q
 |ret v=>exact q
 |brk=>exact q
 |cont=>exact q
theorem z_(h1:PS X st t):PSs X [st] t:=by
 intro pins s σ H D I h
 refine wpAny_execs_cons (dJ (h1 pins s σ H D I h) fun f s1 q=>?_)
 cases f with
 |next=>exact wpAny_execs_nil q
 |ret v=>exact q
 |brk=>exact q
 |cont=>exact q
theorem Inv.quiet{pins:List (Addr×Obj)}{σ:St}{H:Hp}{s:Shared}(I:Inv X pins σ H s):interactive X.env=false:=by simp[interactive,I.ok.kind]
def DY(te:TE):TS:=fun D σ H=>te σ H fun _ H1=>D.nx σ H1
theorem Aa(he:PE X e te)(hs:swapsWith e none pos.line X.env=pure false:=by rfl):PS X (.Expr e pos) (DY te):=by
 intro pins s σ H D I h
 exact wpAny_Expr_any (dJ (he pins s σ H _ I h) fun v s1 ⟨x,H1,I1,r1,q1⟩=>⟨σ,H1,I1,q1⟩) I.quiet hs
def Fn(te:TE):TS:=fun D σ H=>te σ H D.rt
theorem Cr(he:PE X e te):PS X (.Return (some e) pos) (Fn te):=by
 intro pins s σ H D I h
 exact wpAny_Return_some (dJ (he pins s σ H _ I h) fun v s1 ⟨x,H1,I1,r1,q1⟩=>⟨x,σ,H1,I1,r1,q1⟩)
def DZ(c:TT)(t u:TS):TS:=fun D σ H=>c σ H fun b H1=>if b=true then t D σ H1 else u D σ H1
theorem D0{c:Expr}{a b:List Stmt}{tc:TT}(hc:PT X c tc)(ha:PSs X a t)(hb:PSs X b u):PS X (.If c a b pos) (DZ tc t u):=by
 intro pins s σ H D I h
 refine wpAny_If (dJ (hc pins s σ H _ I h) fun d s1 ⟨H1,I1,q1⟩=>?_)
 cases d with
 |true=>exact ha pins s1 σ H1 D I1 q1
 |false=>exact hb pins s1 σ H1 D I1 q1
def Cs:TS:=fun _ _ _=>False
theorem xM:PS X st Cs:=fun _ _ _ _ _ _ h=>h.elim
end
abbrev TG:=V→St→Hp→(St→Hp→Prop)→Prop
abbrev Ab:=List V→St→Hp→(St→Hp→Prop)→Prop
def PG(X:Cx)(target:Expr)(t:TG):Prop:=
 ∀(pins:List (Addr×Obj)) (s:Shared) (σ:St) (H:Hp) (v:V) (u:Value) (Q:St→Hp→Prop),Inv X pins σ H s→RelV v u→t v σ H Q→
  wpAny (model X.prog X.w) X.A (assign target X.env u) (fun _ s'=>∃σ' H',Inv X pins σ' H' s'∧Q σ' H') X.xe s
def Ct(X:Cx)(ts:List Expr)(t:Ab):Prop:=
 ∀(pins:List (Addr×Obj)) (s:Shared) (σ:St) (H:Hp) (vs:List V) (us:List Value) (Q:St→Hp→Prop),Inv X pins σ H s→Vals vs us→t vs σ H Q→
  wpAny (model X.prog X.w) X.A (assignInOrder ((assignEach ts X.env).map (·.2)) us) (fun _ s'=>∃σ' H',Inv X pins σ' H' s'∧Q σ' H') X.xe s
section
variable {X:Cx} {pos:Pos}
def ni(i:Nat):TG:=fun v σ H Q=>Q (σ.set i (some v)) H
theorem qe{i:Nat}{x:Str}(hN:X.N.Nodup)(hi:X.N[i]? =some x)(hx:BM X.env.scope x)(hf:X.fn x=true∨X.env.scope.names.lookup x=some .local:=by first |exact .inl rfl |exact .inr rfl |assumption):PG X (.Name x pos) (ni i):=by
 intro pins s σ H v u Q I r h
 exact wpAny_assign_Name (m_ I hN hi hx r (fun s' I'=>⟨_,H,I',h⟩) hf)
def Fo:Ab:=fun vs σ H Q=>vs=[]∧Q σ H
def D1(t:TG)(u:Ab):Ab:=fun vs σ H Q=>∃v r,vs=v::r∧t v σ H fun σ' H'=>u r σ' H' Q
theorem Ac:Ct X [] Fo:=by
 intro pins s σ H vs us Q I r h
 obtain⟨e,h⟩:=h
 subst e
 cases r
 exact assignInOrder_nil ⟨σ,H,I,h⟩
theorem xN{e:Expr}{es:List Expr}{t:TG}{u:Ab}(h1:PG X e t)(h2:Ct X es u)
  (hs:(assignEach (e::es) X.env).map (·.2)=assign e X.env::(assignEach es X.env).map (·.2):=by rfl):Ct X (e::es) (D1 t u):=by
 intro pins s σ H vs us Q I r h
 obtain⟨v,vr,e1,h⟩:=h
 subst e1
 cases r with
 |cons r rr=>
  rw[hs]
  refine assignInOrder_cons (dJ (h1 pins s σ H _ _ _ I r h) fun _ s1 ⟨σ1,H1,I1,q1⟩=>?_)
  exact h2 pins s1 σ1 H1 _ _ Q I1 rr q1
def Fp(K:Frag)(n:Nat)(t:Ab):TG:=fun v σ H Q=>∃a xs,v=.ref a∧SqT K H a xs∧xs.length=n∧t xs σ H Q
theorem Cu{es:List Expr}{k:Nat}{t:Ab}{n:Nat}(hc:X.calm=true)(h:Ct X es t)
  (hn:(assignEach es X.env).length=n:=by rfl) (hst:(assignEach es X.env).findIdx? (·.1)=none:=by rfl):PG X (.Tuple es k pos) (Fp X.K n t):=by
 intro pins s σ H v u Q I r hw
 obtain⟨a,xs,e1,hq,hl,hw⟩:=hw
 subst e1
 cases r
 obtain⟨its,rv,ht,hz⟩:=I.tuple hq
 refine assign_Tuple_tuple (I.ok.hd hc) ht (by simp[hn,←hl,rv.length]) hst fun h' hx=>?_
 have I1:Inv X pins σ H {s with heap:=h'}:=I.kept (t':=s.toks) fun b o e=>hx b o (gK (gn e)) e
 exact h pins _ σ H xs _ Q I1 (by simpa using rv) hw
def Cv(te:TE)(g:TG):TS:=fun D σ H=>te σ H fun x H1=>g x σ H1 D.nx
theorem Cw{i:Nat}{x:Str}{e:Expr}{te:TE}{pos':Pos}(hN:X.N.Nodup)(hi:X.N[i]? =some x)(hx:BM X.env.scope x)(he:PE X e te)(hs:swapsWith e (some (.Name x pos')) pos.line X.env=pure false:=by rfl)(hf:X.fn x=true∨X.env.scope.names.lookup x=some .local:=by first |exact .inl rfl |exact .inr rfl |assumption):
  PS X (.Assign [.Name x pos'] e pos) (Cv te (ni i)):=by
 intro pins s σ H D I h
 refine wpAny_Assign_Name (dJ (he pins s σ H _ I h) fun v s1 ⟨y,H1,I1,r1,q1⟩=>?_) hs
 exact m_ I1 hN hi hx r1 (fun s2 I2=>⟨_,H1,I2,q1⟩) hf
end
structure It where
 go:Nat→Hp→Prop
 yld:Nat→Hp→V→Hp→Prop
 stop:Nat→Hp→Prop
def kC(X:Cx)(pins:List (Addr×Obj))(H:Hp)(b:Addr):Prop:=
 H b=none∧b≠X.env.locals∧b∉X.fs∧(b∈X.ex∨X.s₀.heap.objs.size≤b)∧(∀x c,X.env.cells.lookup x=some c→c≠b)∧∀p∈X.pn++pins,p.1≠b
theorem Inv.fpOk{X:Cx}{pins:List (Addr×Obj)}{σ:St}{H H':Hp}{s:Shared}{b:Addr}(I:Inv X pins σ H s)(hb:s.heap.objs.size≤b)(hn:H' b=none):kC X pins H' b:=by
 refine⟨hn,Nat.ne_of_gt (lE I.lt hb),I.nofs hb,.inr (jK I.sz hb),fun x c e z=>?_,fun p hp z=>?_⟩
 ·obtain⟨v,q⟩:=I.cell x c e
  exact absurd (lE q.lt (by rw[z];exact hb)) (Nat.lt_irrefl _)
 ·exact absurd (lE (gn (I.pin p hp).1) (by rw[z];exact hb)) (Nat.lt_irrefl _)
structure Turn (P:Program) (w:World) (K:Frag) (tg:Expr) (J:It) (fp:List Addr) (it:Addr) (tn:Nat→Heap→Prop):Prop where
 mem:it∈fp
 obj:∀i h,tn i h→∀b∈fp,∃o,h.get? b=some o∧∀v,o.data≠ .cell v
 keep:∀i h h',tn i h→(∀b∈fp,∀o,h.get? b=some o→h'.get? b=some o)→tn i h'
 item:∀(X:Cx),X.prog=P→X.w=w→X.K=K→X.calm=true→∀(i:Nat) (pins:List (Addr×Obj)) (s:Shared) (σ:St) (H:Hp) (E:Value→Shared→Prop),Inv X pins σ H s→(∀b∈fp,kC X pins H b)→tn i s.heap→J.go i H→
  wpAny (model P w) X.A (pyNext (.ref it)) (fun r s1=>∃u,r=some u∧
   wpAny (model P w) X.A (letOwnedTupleGo tg (.ref it) u) (fun _ s2=>∃x H',Inv X pins σ H' s2∧RelV x u∧J.yld i H x H'∧tn (i+1) s2.heap∧∀b∈fp,H' b=none) E s1) E s
 done:∀(X:Cx),X.prog=P→X.w=w→X.K=K→X.calm=true→∀(i:Nat) (pins:List (Addr×Obj)) (s:Shared) (σ:St) (H:Hp) (E:Value→Shared→Prop),Inv X pins σ H s→(∀b∈fp,kC X pins H b)→tn i s.heap→J.stop i H→
  wpAny (model P w) X.A (pyNext (.ref it)) (fun r s1=>r=none∧Inv X pins σ H s1) E s
 self:∀(A:Around) (i:Nat) (s:Shared) (Q:Value→Shared→Prop) (E:Value→Shared→Prop),tn i s.heap→Q (.ref it) s→wpAny (model P w) A (pyIter (.ref it)) Q E s
abbrev TI:=St→Hp→(It→Hp→Prop)→Prop
def F4(X:Cx)(pins:List (Addr×Obj))(σ:St)(tg:Expr)(R:It→Hp→Prop)(itv:Value)(s2:Shared):Prop:=
 ∃(it:Addr) (fp:List Addr) (tn:Nat→Heap→Prop) (J:It) (H':Hp),itv=.ref it∧Inv X pins σ H' s2∧Turn X.prog X.w X.K tg J fp it tn∧tn 0 s2.heap∧(∀b∈fp,kC X pins H' b)∧R J H'
def PI(X:Cx)(tg iter:Expr)(wi:TI):Prop:=
 ∀(pins:List (Addr×Obj)) (s:Shared) (σ:St) (H:Hp) (R:It→Hp→Prop),Inv X pins σ H s→wi σ H R→
  wpAny (model X.prog X.w) X.A (eval iter X.env) (fun v s1=>wpAny (model X.prog X.w) X.A (pyIter v) (F4 X pins σ tg R) X.xe s1) X.xe s
theorem rR{M:Model}{A:Around}{E:Value→Shared→Prop}{s:Shared}{tg:Expr}{it:Addr}{u:Value}{o:Obj}{n:String}{vs:Array Value}{Q:Unit→Shared→Prop}(ho:s.heap.get? it=some o)(hc:o.cls=.type n)(hd:o.data=.fields vs)
  (hn:["enumerate","zip","dict_itemiterator","dict_reverseitemiterator","odict_iterator","itertools.zip_longest","itertools.pairwise"].contains n=false) (hQ:Q () s):wpAny M A (letOwnedTupleGo tg (.ref it) u) Q E s:=by
 unfold letOwnedTupleGo
 cases tg <;> first
  |exact wpAny_pure hQ
  |(cases u <;> first
    |exact wpAny_pure hQ
    |(refine wpAny_bind (wpAny_load ho ?_)
      rw[hc,hd]
      show wpAny M A (if (["enumerate","zip","dict_itemiterator","dict_reverseitemiterator","odict_iterator","itertools.zip_longest","itertools.pairwise"].contains n&&vs[0]? == some (rawInt _))=true then _ else _) Q E s
      rw[if_neg (by intro h;rw[hn,Bool.false_and]at h;cases h)]
      exact wpAny_pure hQ))
def Fq(K:Frag)(a:Addr):It:=
 ⟨fun i H=>∃xs x,SqL K H a xs∧xs[i]? =some x,fun i H x H'=>H'=H∧∀xs,SqL K H a xs→xs[i]? =some x,fun i H=>∃xs,SqL K H a xs∧xs.length≤i⟩
def Fs(K:Frag)(a:Addr):It:=
 ⟨fun i H=>∃xs x,SqT K H a xs∧xs[i]? =some x,fun i H x H'=>H'=H∧∀xs,SqT K H a xs→xs[i]? =some x,fun i H=>∃xs,SqT K H a xs∧xs.length≤i⟩
def D2(lo:Int)(n:Nat):It:=⟨fun i _=>i < n,fun i H x H'=>H'=H∧x=.int (lo+i),fun i _=>n≤i⟩
theorem wj{P:Program}{w:World}{K:Frag}{tg:Expr}(a it:Addr):Turn P w K tg (Fq K a) [it] it (fun i h=>h.IsListIter it a i) where
 mem:=by simp
 obj:=fun i h st b hb=>by
  have e:b=it:=by simpa using hb
  subst e
  obtain⟨o,e,c,d⟩:=st
  exact⟨o,e,fun v z=>by rw[d]at z;cases z⟩
 keep:=fun i h h' st k=>st.at fun o e=>k it (by simp) o e
 item:=by
  intro X hP hw hK hc i pins s σ H E I hf st hg
  subst hP hw hK
  obtain⟨xs,x,hq,hx⟩:=hg
  obtain⟨its,rv,p,hz⟩:=I.list hq
  obtain⟨u,hu,ru⟩:=rv.get hx
  obtain⟨f0,f1,f2,f3,f4,f5⟩:=hf it (by simp)
  refine wpAny_pyNext_list_item st p.isList (x:=u) (by simpa using hu) fun h' st' sb=>?_
  have I1:Inv X pins σ H {s with heap:=h'}:=I.turned (t':=s.toks) (fun b o hb e=>(sb.2 b hb).trans e) f0 f1 f3 f4 f5
  obtain⟨o,e,c,d⟩:=id st'
  exact⟨u,rfl,rR (s:={s with heap:=h'}) e c d (by decide) ⟨x,H,I1,ru,⟨rfl,fun ys hy=>by rw[I.list_inj hy hq];exact hx⟩,st',fun b hb=>(hf b hb).1⟩⟩
 done:=by
  intro X hP hw hK hc i pins s σ H E I hf st hg
  subst hP hw hK
  obtain⟨xs,hq,hx⟩:=hg
  obtain⟨its,rv,p,hz⟩:=I.list hq
  obtain⟨f0,f1,f2,f3,f4,f5⟩:=hf it (by simp)
  have hl:=rv.length
  exact wpAny_pyNext_list_end (I.ok.hd hc) st p.isList (by simp;omega) fun h' eb=>⟨rfl,I.turned (t':=s.toks) (fun b o hb e=>eb b o hb e) f0 f1 f3 f4 f5⟩
 self:=fun _ _ _ _ _ st h=>wpAny_pyIter_listiter st h
theorem ug{P:Program}{w:World}{K:Frag}{tg:Expr}(a it:Addr):Turn P w K tg (Fs K a) [it] it (fun i h=>h.IsTupleIter it a i) where
 mem:=by simp
 obj:=fun i h st b hb=>by
  have e:b=it:=by simpa using hb
  subst e
  obtain⟨o,e,c,d⟩:=st
  exact⟨o,e,fun v z=>by rw[d]at z;cases z⟩
 keep:=fun i h h' st k=>st.at fun o e=>k it (by simp) o e
 item:=by
  intro X hP hw hK hc i pins s σ H E I hf st hg
  subst hP hw hK
  obtain⟨xs,x,hq,hx⟩:=hg
  obtain⟨its,rv,p,hz⟩:=I.tuple hq
  obtain⟨u,hu,ru⟩:=rv.get hx
  obtain⟨f0,f1,f2,f3,f4,f5⟩:=hf it (by simp)
  refine wpAny_pyNext_tuple_item st (show s.heap.IsTuple a its.toArray from p) (x:=u) (by simpa using hu) fun h' st' sb=>?_
  have I1:Inv X pins σ H {s with heap:=h'}:=I.turned (t':=s.toks) (fun b o hb e=>(sb.2 b hb).trans e) f0 f1 f3 f4 f5
  obtain⟨o,e,c,d⟩:=id st'
  exact⟨u,rfl,rR (s:={s with heap:=h'}) e c d (by decide) ⟨x,H,I1,ru,⟨rfl,fun ys hy=>by rw[I.tuple_inj hy hq];exact hx⟩,st',fun b hb=>(hf b hb).1⟩⟩
 done:=by
  intro X hP hw hK hc i pins s σ H E I hf st hg
  subst hP hw hK
  obtain⟨xs,hq,hx⟩:=hg
  obtain⟨its,rv,p,hz⟩:=I.tuple hq
  obtain⟨f0,f1,f2,f3,f4,f5⟩:=hf it (by simp)
  have hl:=rv.length
  exact wpAny_pyNext_tuple_end (I.ok.hd hc) st (show s.heap.IsTuple a its.toArray from p) (by simp;omega) fun h' eb=>⟨rfl,I.turned (t':=s.toks) (fun b o hb e=>eb b o hb e) f0 f1 f3 f4 f5⟩
 self:=fun _ _ _ _ _ st h=>wpAny_pyIter_tupleiter st h
theorem uh{P:Program}{w:World}{K:Frag}{tg:Expr}(it:Addr)(lo:Int)(n:Nat):Turn P w K tg (D2 lo n) [it] it (fun i h=>IsRangeIter h it (lo+(i:Nat)*1) ((n:Int) - (i:Nat)) 1) where
 mem:=by simp
 obj:=fun i h st b hb=>by
  have e:b=it:=by simpa using hb
  subst e
  exact⟨_,st,fun v z=>by
   have z':Data.fields _=Data.cell v:=z
   cases z'⟩
 keep:=fun i h h' st k=>k it (by simp) _ st
 item:=by
  intro X hP hw hK hc i pins s σ H E I hf st hg
  subst hP hw hK
  obtain⟨f0,f1,f2,f3,f4,f5⟩:=hf it (by simp)
  have W:=Walks.range (prog:=X.prog) (w:=X.w) (I.ok.hd hc) it lo 1 n
  refine W.item i s _ _ hg st fun v h' tk hv st' kk=>?_
  obtain⟨t,rfl⟩:=hv
  have I1:Inv X pins σ H {s with heap:=h',toks:=tk}:=I.turned (fun b o hb e=>kk b o (by simpa using hb) e) f0 f1 f3 f4 f5
  refine⟨_,rfl,rR (s:={s with heap:=h',toks:=tk}) (n:="range_iterator") st' rfl rfl (by decide) ⟨.int (lo+i),H,I1,⟨t,?_⟩,⟨rfl,rfl⟩,st',fun b hb=>(hf b hb).1⟩⟩
  rw[Int.mul_one]
 done:=by
  intro X hP hw hK hc i pins s σ H E I hf st hg
  subst hP hw hK
  obtain⟨f0,f1,f2,f3,f4,f5⟩:=hf it (by simp)
  exact wpAny_pyNext_range_end (I.ok.hd hc) st (by have:n≤i:=hg;omega) fun h' eb=>⟨rfl,I.turned (t':=s.toks) (fun b o hb e=>eb b o hb e) f0 f1 f3 f4 f5⟩
 self:=fun _ _ _ _ _ st h=>wpAny_pyIter_rangeiter st h
end L2
namespace L2
open PySem PySem.Spec PyProof.Rows
section
variable {X:Cx} {tg:Expr}
def D3(K:Frag)(tl:TE):TI:=fun σ H R=>tl σ H fun x H1=>∃a,x=.ref a∧(∃xs,SqL K H1 a xs)∧R (Fq K a) H1
def Ft(K:Frag)(tl:TE):TI:=fun σ H R=>tl σ H fun x H1=>∃a,x=.ref a∧(∃xs,SqT K H1 a xs)∧R (Fs K a) H1
theorem qf{l:Expr}{tl:TE}(hl:PE X l tl):PI X tg l (D3 X.K tl):=by
 intro pins s σ H R I h
 refine dJ (hl pins s σ H _ I h) fun v s1 ⟨x,H1,I1,r1,q1⟩=>?_
 obtain⟨a,e,⟨xs,hq⟩,q⟩:=q1
 subst e
 cases r1
 obtain⟨its,rv,p,hz⟩:=I1.list hq
 refine wpAny_pyIter_list p.isList ?_
 refine⟨s1.heap.objs.size,[s1.heap.objs.size],_,_,H1,rfl,I1.kept (t':=s1.toks) fun b o e=>gz _ e,wj a _,⟨_,jU _ rfl,rfl,rfl⟩,fun b hb=>?_,q⟩
 have e:b=s1.heap.objs.size:=by simpa using hb
 subst e
 exact I1.fpOk (fS _) (I1.hok.fresh (fS _))
theorem Cy{l:Expr}{tl:TE}(hl:PE X l tl):PI X tg l (Ft X.K tl):=by
 intro pins s σ H R I h
 refine dJ (hl pins s σ H _ I h) fun v s1 ⟨x,H1,I1,r1,q1⟩=>?_
 obtain⟨a,e,⟨xs,hq⟩,q⟩:=q1
 subst e
 cases r1
 obtain⟨its,rv,p,hz⟩:=I1.tuple hq
 refine wpAny_pyIter_tuple (show s1.heap.IsTuple a its.toArray from p) ?_
 refine⟨s1.heap.objs.size,[s1.heap.objs.size],_,_,H1,rfl,I1.kept (t':=s1.toks) fun b o e=>gz _ e,ug a _,⟨_,jU _ rfl,rfl,rfl⟩,fun b hb=>?_,q⟩
 have e:b=s1.heap.objs.size:=by simpa using hb
 subst e
 exact I1.fpOk (fS _) (I1.hok.fresh (fS _))
theorem rS{pins:List (Addr×Obj)}{σ:St}{H:Hp}{s:Shared}{R:It→Hp→Prop}{E:Value→Shared→Prop}{lo hi:Int}{t u v:Tok}{tk:Nat}(I:Inv X pins σ H s)(h1: -(2 ^ 62)≤lo)(h2:lo < 2 ^ 62)(h3: -(2 ^ 62)≤hi)(h4:hi < 2 ^ 62)
  (q:R (D2 lo (hi - lo).toNat) H):wpAny (model X.prog X.w) X.A (pyIter (.ref s.heap.objs.size)) (F4 X pins σ tg R) E {s with heap:=s.heap.push {cls:=.type "range",data:=.fields #[.int lo t,.int hi u,.int 1 v]},toks:=tk}:=by
 refine wpAny_pyIter_range (IsRange.new ..) (small_one h1 h2 h3 h4) ?_
 have I1:Inv X pins σ H {s with heap:=s.heap.push {cls:=.type "range",data:=.fields #[.int lo t,.int hi u,.int 1 v]},toks:=tk}:=I.kept fun b o e=>gz _ e
 refine⟨(s.heap.push {cls:=.type "range",data:=.fields #[.int lo t,.int hi u,.int 1 v]}).objs.size,[(s.heap.push {cls:=.type "range",data:=.fields #[.int lo t,.int hi u,.int 1 v]}).objs.size],_,_,H,rfl,
  I1.kept (t':=tk) fun b o e=>gz _ e,uh _ lo (hi - lo).toNat,?_,fun b hb=>?_,q⟩
 ·have e1:lo+((0:Nat):Int)*1=lo:=by simp
  have e2:(((hi - lo).toNat:Nat):Int) - ((0:Nat):Int)=Builtin.Range.rangeSize lo hi 1:=by rw[rangeSize_one];split <;> omega
  show IsRangeIter _ _ (lo+((0:Nat):Int)*1) ((((hi - lo).toNat:Nat):Int) - ((0:Nat):Int)) 1
  rw[e1,e2]
  exact jU _ rfl
 ·have e:b=(s.heap.push {cls:=.type "range",data:=.fields #[.int lo t,.int hi u,.int 1 v]}).objs.size:=by simpa using hb
  subst e
  exact I1.fpOk (fS _) (I1.hok.fresh (fS _))
def D4(ta:TA):TI:=fun σ H R=>ta σ H fun vs H1=>∃j:Int,vs=[.int j]∧ -(2 ^ 62)≤j∧j < 2 ^ 62∧R (D2 0 j.toNat) H1
def D5(ta:TA):TI:=fun σ H R=>ta σ H fun vs H1=>∃i j:Int,vs=[.int i,.int j]∧(-(2 ^ 62)≤i∧i < 2 ^ 62∧ -(2 ^ 62)≤j∧j < 2 ^ 62)∧R (D2 i (j - i).toNat) H1
theorem wk {a:Expr} {ta:TA} {p pos:Pos} (hg:Gl X "range") (hm:X.mg "range"=none) (ha:PA X [a] ta) (hs:starEach [a] X.env=[(false,eval a X.env)]:=by rfl):PI X tg (.Call (.Name "range" p) [a] [] pos) (D4 ta):=by
 intro pins s σ H R I h
 refine Call_ (jW I hg hm boot_range (PyProof.Rows.callWith_type1 (dJ (ha pos pins s σ H _ I h) fun us s1 ⟨vs,H1,I1,r1,q1⟩=>?_) hs rfl))
 obtain⟨j,e,q1,q2,q⟩:=q1
 subst e
 cases r1 with
 |cons r rr=>
  cases rr
  obtain⟨t,rfl⟩:=r
  exact call_range_1 (rS I1 (by omega) (by omega) q1 q2 (by simpa using q))
theorem wl {a b:Expr} {ta:TA} {p pos:Pos} (hg:Gl X "range") (hm:X.mg "range"=none) (ha:PA X [a,b] ta) (hs:starEach [a,b] X.env=[(false,eval a X.env),(false,eval b X.env)]:=by rfl) (hs2:starEach [b] X.env=[(false,eval b X.env)]:=by rfl):
  PI X tg (.Call (.Name "range" p) [a,b] [] pos) (D5 ta):=by
 intro pins s σ H R I h
 refine Call_ (jW I hg hm boot_range (PyProof.Rows.callWith_type1 (dJ (ha pos pins s σ H _ I h) fun us s1 ⟨vs,H1,I1,r1,q1⟩=>?_) (by rw[hs,hs2]) (by rw[hs2];rfl)))
 obtain⟨i,j,e,⟨q1,q2,q3,q4⟩,q⟩:=q1
 subst e
 cases r1 with
 |cons r rr=>
  cases rr with
  |cons r' rr=>
   cases rr
   obtain⟨t,rfl⟩:=r
   obtain⟨t',rfl⟩:=r'
   exact call_range_2 (rS I1 q1 q2 q3 q4 q)
def D6(wi:TI)(g:TG)(tb:TS):TS:=fun D σ H=>wi σ H fun J H1=>∃W:Nat→Nat→St→Hp→Prop,(∃m,W 0 m σ H1)∧∀i m σ H,W i m σ H→
 (J.stop i H∧D.nx σ H)∨(J.go i H∧∃N:St→Hp→Prop,(∀σ' H',N σ' H'→∃m',m' < m∧W (i+1) m' σ' H')∧∀x H',J.yld i H x H'→g x σ H' fun σ2 H2=>tb {D with nx:=N,ct:=N,bk:=D.nx} σ2 H2)
def jX(fp:List Addr)(h:Heap):List (Addr×Obj):=fp.filterMap fun b=>(h.get? b).map fun o=>(b,o)
theorem fe{fp:List Addr}{h:Heap}{b:Addr}{o:Obj}(hb:b∈fp)(e:h.get? b=some o):(b,o)∈jX fp h:=List.mem_filterMap.mpr ⟨b,hb,by rw[e];rfl⟩
theorem wm{fp:List Addr}{h:Heap}{p:Addr×Obj}(hp:p∈jX fp h):p.1∈fp∧h.get? p.1=some p.2:=by
 obtain⟨b,hb,e⟩:=List.mem_filterMap.mp hp
 cases q:h.get? b with
 |none=>rw[q]at e;cases e
 |some o=>
  rw[q]at e
  have e':(b,o)=p:=Option.some.inj e
  subst e'
  exact⟨hb,q⟩
theorem Inv.pinned{pins:List (Addr×Obj)}{σ:St}{H:Hp}{s:Shared}{fp:List Addr}(I:Inv X pins σ H s)(hf:∀b∈fp,kC X pins H b)(ho:∀b∈fp,∃o,s.heap.get? b=some o∧∀v,o.data≠ .cell v):Inv X (pins++jX fp s.heap) σ H s:=
 I.pins_of fun p hp=>(Zan.mp hp).elim (fun z=>I.pin p (lD _ z)) fun z=>by
  obtain⟨hb,e⟩:=wm z
  obtain⟨f0,f1,f2,_⟩:=hf p.1 hb
  obtain⟨o,e',d⟩:=ho p.1 hb
  rw[e]at e';cases e'
  exact⟨e,f0,f1,f2,d⟩
theorem Inv.unpinned{pins pl:List (Addr×Obj)}{σ:St}{H:Hp}{s:Shared}(I:Inv X (pins++pl) σ H s):Inv X pins σ H s:=I.pins_of fun p hp=>I.pin p (lD _ (List.mem_append_left _ hp))
theorem Cz{iter:Expr}{body:List Stmt}{wi:TI}{g:TG}{tb:TS}{pos:Pos}(hp:PassesOwn (model X.prog X.w) X.A X.env X.xe)(hc:X.calm=true)(hi:PI X tg iter wi)(hg:PG X tg g)(hb:PSs X body tb)
  (hs:∀x,foldedSetIterable iter X.env x=pure x:=by intro _;rfl):PS X (.For tg iter body [] pos) (D6 wi g tb):=by
 intro pins s σ H D I h
 refine wpAny_For (dJ (hi pins s σ H _ I h) fun v s1 h1=>dJ h1 fun itv s2 h2=>?_) hs
 obtain⟨it,fp,tn,J,H2,e,I2,T,st2,f2,W,⟨m0,w0⟩,turn⟩:=h2
 subst e
 -- what stays true of the iterator's objects through the qc
 have stat:∀{H':Hp},(∀b∈fp,H' b=none)→∀b∈fp,kC X pins H' b:=fun hn b hb=>⟨hn b hb,(f2 b hb).2⟩
 refine codeAny_forLoop_any (fun n s'=>∃i σ' H',Inv X pins σ' H' s'∧tn i s'.heap∧(∀b∈fp,H' b=none)∧W i n σ' H') ?_ m0 ⟨0,σ,H2,I2,st2,fun b hb=>(f2 b hb).1,w0⟩
 rintro n s3 ⟨i,σ3,H3,I3,st3,fr3,w3⟩
 rcases turn i n σ3 H3 w3 with⟨stop,qn⟩ |⟨go,N,hN,step⟩
 ·refine wpAny_passesOwn hp (dJ (T.done X rfl rfl rfl hc i pins s3 σ3 H3 X.xe I3 (stat fr3) st3 stop) fun r s4 ⟨hr,I4⟩=>?_)
  subst hr
  exact wpAny_execs_nil ⟨σ3,H3,I4,qn⟩
 ·refine wpAny_passesOwn hp (dJ (T.item X rfl rfl rfl hc i pins s3 σ3 H3 X.xe I3 (stat fr3) st3 go) fun r s4 ⟨u,hr,h4⟩=>?_)
  subst hr
  refine wpAny_passesOwn hp (dJ h4 fun _ s5 ⟨x,H5,I5,r5,y5,st5,fr5⟩=>?_)
  have I5':=I5.pinned (stat fr5) (T.obj _ _ st5)
  refine wpAny_passesOwn hp (dJ (hg _ s5 σ3 H5 x u _ I5' r5 (step x H5 y5)) fun _ s6 ⟨σ6,H6,I6,q6⟩=>?_)
  refine wpAny_passesOwn hp (dJ (hb _ s6 σ6 H6 _ I6 q6) fun f s7 q7=>?_)
  have again:∀{σ7:St} {H7:Hp},Inv X (pins++jX fp s5.heap) σ7 H7 s7→N σ7 H7→∃m,m < n∧∃i σ' H',Inv X pins σ' H' s7∧tn i s7.heap∧(∀b∈fp,H' b=none)∧W i m σ' H':=fun {σ7 H7} I7 n7=>by
   obtain⟨m',hm,w7⟩:=hN σ7 H7 n7
   refine⟨m',hm,i+1,σ7,H7,I7.unpinned,T.keep _ _ _ st5 fun b hb o e=>(I7.pin (b,o) (lD _ (lD _ (fe hb e)))).1,fun b hb=>?_,w7⟩
   obtain⟨o,e,d⟩:=T.obj _ _ st5 b hb
   exact(I7.pin (b,o) (lD _ (lD _ (fe hb e)))).2.1
  cases f with
  |next=>obtain⟨σ7,H7,I7,n7⟩:=q7;exact again I7 n7
  |cont=>obtain⟨σ7,H7,I7,n7⟩:=q7;exact again I7 n7
  |brk=>obtain⟨σ7,H7,I7,q7⟩:=q7;exact⟨σ7,H7,I7.unpinned,q7⟩
  |ret v=>obtain⟨x7,σ7,H7,I7,r7,q7⟩:=q7;exact⟨x7,σ7,H7,I7.unpinned,r7,q7⟩
end
end L2
namespace L2
open PySem PySem.Spec PyProof.Rows
abbrev R2:=V→V→Hp→VK→Prop
def OpR(X:Cx)(f:Value→Value→Sem Value)(r:R2):Prop:=
 ∀(pins:List (Addr×Obj)) (s:Shared) (σ:St) (H:Hp) (x y:V) (v u:Value) (Q:VK),Inv X pins σ H s→RelV x v→RelV y u→r x y H Q→
  wpAny (model X.prog X.w) X.A (f v u) (EP X pins σ Q) X.xe s
def Fu(X:Cx)(f:Value→Sem Value)(r:V→Hp→VK→Prop):Prop:=
 ∀(pins:List (Addr×Obj)) (s:Shared) (σ:St) (H:Hp) (x:V) (v:Value) (Q:VK),Inv X pins σ H s→RelV x v→r x H Q→
  wpAny (model X.prog X.w) X.A (f v) (EP X pins σ Q) X.xe s
def CallR(X:Cx)(f:Value)(r:List V→Hp→VK→Prop):Prop:=
 ∀(pins:List (Addr×Obj)) (s:Shared) (σ:St) (H:Hp) (xs:List V) (us:List Value) (Q:VK),Inv X pins σ H s→Vals xs us→r xs H Q→
  wpAny (model X.prog X.w) X.A (call f us) (EP X pins σ Q) X.xe s
def Fv(X:Cx)(r:V→Hp→(Bool→Hp→Prop)→Prop):Prop:=
 ∀(pins:List (Addr×Obj)) (s:Shared) (σ:St) (H:Hp) (x:V) (v:Value) (Q:Bool→Hp→Prop),Inv X pins σ H s→RelV x v→r x H Q→
  wpAny (model X.prog X.w) X.A (truthy v) (TP X pins σ Q) X.xe s
def D7(r:R2)(ta tb:TE):TE:=fun σ H Q=>ta σ H fun x H1=>tb σ H1 fun y H2=>r x y H2 Q
def Ge(r:V→Hp→VK→Prop)(ta:TE):TE:=fun σ H Q=>ta σ H fun x H1=>r x H1 Q
def rI(C:Int→Int→Prop)(g:Int→Int→V):R2:=fun x y H Q=>∃i j,x=.int i∧y=.int j∧C i j∧Q (g i j) H
def Ad(g:Int→Int→V):R2:=fun x y H Q=>∃i j,x=.int i∧y=.int j∧Q (g i j) H
def rU(g:Int→V):V→Hp→VK→Prop:=fun x H Q=>∃i,x=.int i∧Q (g i) H
section
variable {X:Cx} {a b c:Expr} {ta tb tc:TE} {pos:Pos}
theorem CA(ha:PE X a ta)(hb:PE X b tb){pins:List (Addr×Obj)}{s:Shared}{σ:St}{H:Hp}{R:V→V→Hp→Prop}(I:Inv X pins σ H s)
  (h:ta σ H fun x H1=>tb σ H1 fun y H2=>R x y H2) {Q:Value→Shared→Prop} {f:Value→Value→Sem Value}
  (hf:∀v u s2 x y H2,Inv X pins σ H2 s2→RelV x v→RelV y u→R x y H2→wpAny (model X.prog X.w) X.A (f v u) Q X.xe s2):
  wpAny (model X.prog X.w) X.A (eval a X.env) (fun v s₁=>wpAny (model X.prog X.w) X.A (eval b X.env) (fun u s₂=>wpAny (model X.prog X.w) X.A (f v u) Q X.xe s₂) X.xe s₁) X.xe s:=by
 refine dJ (ha pins s σ H _ I h) fun v s1 ⟨x,H1,I1,r1,q1⟩=>?_
 refine dJ (hb pins s1 σ H1 _ I1 q1) fun u s2 ⟨y,H2,I2,r2,q2⟩=>?_
 exact hf v u s2 x y H2 I2 r1 r2 q2
theorem D8{op:Operator}{r:R2}(ho:OpR X (binaryOp op) r)(ha:PE X a ta)(hb:PE X b tb):PE X (.BinOp a op b pos) (D7 r ta tb):=by
 intro pins s σ H Q I h
 exact wpAny_BinOp (CA ha hb I h fun v u s2 x y H2 I2 rx ry q=>ho pins s2 σ H2 x y v u Q I2 rx ry q)
theorem D9{op:UnaryOp}{r:V→Hp→VK→Prop}(ho:Fu X (unaryOp op) r)(ha:PE X a ta):PE X (.UnaryOp op a pos) (Ge r ta):=by
 intro pins s σ H Q I h
 exact UnaryOp_ (dJ (ha pins s σ H _ I h) fun v s1 ⟨x,H1,I1,r1,q1⟩=>ho pins s1 σ H1 x v Q I1 r1 q1)
theorem Fd{f:Value→Value→Sem Value}{C:Int→Int→Prop}{g:Int→Int→Int}
  (rule:∀(i j:Int) (t u:Tok) (s:Shared) (Q:Value→Shared→Prop) (E:Value→Shared→Prop),C i j→Q (.int (g i j) s.toks) {s with toks:=s.toks+1}→wpAny (model X.prog X.w) X.A (f (.int i t) (.int j u)) Q E s):
  OpR X f (rI C fun i j=>.int (g i j)):=by
 intro pins s σ H x y v u Q I rx ry h
 obtain⟨i,j,rfl,rfl,hc,q⟩:=h
 obtain⟨t,rfl⟩:=rx
 obtain⟨t',rfl⟩:=ry
 exact rule i j t t' s _ _ hc ⟨.int (g i j),H,I.tok _,⟨_,rfl⟩,q⟩
theorem CB{f:Value→Value→Sem Value}{g:Int→Int→Int}
  (rule:∀(i j:Int) (t u:Tok) (s:Shared) (Q:Value→Shared→Prop) (E:Value→Shared→Prop),Q (.int (g i j) s.toks) {s with toks:=s.toks+1}→wpAny (model X.prog X.w) X.A (f (.int i t) (.int j u)) Q E s):
  OpR X f (Ad fun i j=>.int (g i j)):=by
 intro pins s σ H x y v u Q I rx ry h
 obtain⟨i,j,rfl,rfl,q⟩:=h
 obtain⟨t,rfl⟩:=rx
 obtain⟨t',rfl⟩:=ry
 exact rule i j t t' s _ _ ⟨.int (g i j),H,I.tok _,⟨_,rfl⟩,q⟩
theorem Ae{f:Value→Value→Sem Value}{g:Int→Int→Bool}
  (rule:∀(i j:Int) (t u:Tok) (s:Shared) (Q:Value→Shared→Prop) (E:Value→Shared→Prop),Q (.bool (g i j)) s→wpAny (model X.prog X.w) X.A (f (.int i t) (.int j u)) Q E s):
  OpR X f (Ad fun i j=>.bl (g i j)):=by
 intro pins s σ H x y v u Q I rx ry h
 obtain⟨i,j,rfl,rfl,q⟩:=h
 obtain⟨t,rfl⟩:=rx
 obtain⟨t',rfl⟩:=ry
 exact rule i j t t' s _ _ ⟨.bl (g i j),H,I,rfl,q⟩
def D_(i j:Int):Prop:=0≤j∧j≤1000000∧i.natAbs < 2 ^ 64
def CMul(i j:Int):Prop:=(-(2 ^ 64) < i∧i < 2 ^ 64)∨(-(2 ^ 64) < j∧j < 2 ^ 64)
theorem CMul.ok{i j:Int}(h:CMul i j):IntMulOk i j:=by
 rcases h with⟨h1,h2⟩ |⟨h1,h2⟩
 ·exact .of_left (intBits_le_64 h1 h2)
 ·exact .of_right (intBits_le_64 h1 h2)
theorem CC:OpR X (binaryOp .Add) (Ad fun i j=>.int (i+j)):=CB fun _ _ _ _ _ _ _ q=>add_int q
theorem CD:OpR X (binaryOp .Sub) (Ad fun i j=>.int (i - j)):=CB fun _ _ _ _ _ _ _ q=>sub_int q
theorem CF:OpR X (binaryOp .Mod) (rI (fun _ j=>0 < j) fun i j=>.int (i % j)):=Fd fun i j _ _ _ _ _ hc q=>by
 have h1:(0:Int) < j:=hc
 exact mod_int' (by omega) (by rw[Int.fmod_eq_emod_of_nonneg i (by omega)];exact q)
theorem CG:OpR X (binaryOp .Pow) (rI D_ fun i j=>.int (i ^ j.toNat)):=Fd fun _ _ _ _ _ _ _ hc q=>pow_int_small hc.1 hc.2.1 hc.2.2 q
theorem CH:OpR X (binaryOp .BitAnd) (Ad fun i j=>.int (Builtin.bitAnd i j)):=CB fun _ _ _ _ _ _ _ q=>and_int q
theorem Gf{f:Value→Sem Value}{g:Int→Int}
  (rule:∀(i:Int) (t:Tok) (s:Shared) (Q:Value→Shared→Prop) (E:Value→Shared→Prop),Q (.int (g i) s.toks) {s with toks:=s.toks+1}→wpAny (model X.prog X.w) X.A (f (.int i t)) Q E s):
  Fu X f (rU fun i=>.int (g i)):=by
 intro pins s σ H x v Q I rx h
 obtain⟨i,rfl,q⟩:=h
 obtain⟨t,rfl⟩:=rx
 exact rule i t s _ _ ⟨.int (g i),H,I.tok _,⟨_,rfl⟩,q⟩
theorem CI:Fu X (unaryOp .USub) (rU fun i=>.int (-i)):=Gf fun _ _ _ _ _ q=>neg_int q
end
def CJ:V→V→Bool
 |.non,.non=>true |.non,.int _=>true |.int _,.non=>true |.non,.bl _=>true |.bl _,.non=>true |.non,.str _=>true |.str _,.non=>true
 |.int _,.int _=>true |.bl _,.bl _=>true |.str _,.str _=>true |.byt _,.byt _=>true
 |.int _,.str _=>true |.str _,.int _=>true |.bl _,.str _=>true |.str _,.bl _=>true
 |_,_=>false
def F7:R2:=fun x y H Q=>CJ x y=true∧Q (.bl (decide (x=y))) H
def F8:R2:=fun x y H Q=>CJ x y=true∧Q (.bl (!decide (x=y))) H
theorem vq{i j:Int}:decide (V.int i=V.int j)=(i == j):=by
 rw[Bool.eq_iff_iff]
 simp
theorem xO{i j:Bool}:decide (V.bl i=V.bl j)=(i == j):=by
 rw[Bool.eq_iff_iff]
 simp
theorem vt{i j:Str}:decide (V.str i=V.str j)=(i == j):=by
 rw[Bool.eq_iff_iff]
 simp
theorem vv{i j:Array UInt8}:decide (V.byt i=V.byt j)=(i.toList == j.toList):=by
 rw[Bool.eq_iff_iff]
 cases i
 cases j
 simp
section
variable {X:Cx} {a b c:Expr} {ta tb tc:TE} {pos:Pos}
theorem bd{pins:List (Addr×Obj)}{σ:St}{H:Hp}{s:Shared}{Q:VK}{k k':Bool}(I:Inv X pins σ H s)(q:Q (.bl k) H)(e:k=k'):EP X pins σ Q (.bool k') s:=by
 subst e
 exact⟨.bl k,H,I,rfl,q⟩
theorem BN:OpR X (compareOp .Eq) F7:=by
 intro pins s σ H x y v u Q I rx ry h
 obtain⟨hs,q⟩:=h
 cases x with
 |non=>
  cases rx
  cases y with
  |non=>cases ry;exact PySem.EqNone.eq_none_none (bd I q (by simp))
  |bl j=>cases ry;exact PySem.EqNone.eq_none_bool (bd I q (by simp))
  |int j=>obtain⟨t',rfl⟩:=ry;exact PySem.EqNone.eq_none_int (bd I q (by simp))
  |str j=>obtain⟨t',rfl⟩:=ry;exact PySem.EqNone.eq_none_str (bd I q (by simp))
  |_=>exact absurd (show false=true from hs) qa
 |bl i=>
  cases rx
  cases y with
  |non=>cases ry;exact PySem.EqNone.eq_bool_none (bd I q (by simp))
  |bl j=>cases ry;exact eq_bool (bd I q xO)
  |str j=>obtain⟨t',rfl⟩:=ry;exact PySem.EqMixed.eq_bool_str (bd I q (by simp))
  |_=>exact absurd (show false=true from hs) qa
 |int i=>
  obtain⟨t,rfl⟩:=rx
  cases y with
  |non=>cases ry;exact PySem.EqNone.eq_int_none (bd I q (by simp))
  |int j=>obtain⟨t',rfl⟩:=ry;exact eq_int (bd I q vq)
  |str j=>obtain⟨t',rfl⟩:=ry;exact PySem.EqMixed.eq_int_str (bd I q (by simp))
  |_=>exact absurd (show false=true from hs) qa
 |str i=>
  obtain⟨t,rfl⟩:=rx
  cases y with
  |non=>cases ry;exact PySem.EqNone.eq_str_none (bd I q (by simp))
  |bl j=>cases ry;exact PySem.EqMixed.eq_str_bool (bd I q (by simp))
  |int j=>obtain⟨t',rfl⟩:=ry;exact PySem.EqMixed.eq_str_int (bd I q (by simp))
  |str j=>obtain⟨t',rfl⟩:=ry;exact eq_str (bd I q vt)
  |_=>exact absurd (show false=true from hs) qa
 |byt i=>
  obtain⟨t,rfl⟩:=rx
  cases y with
  |byt j=>obtain⟨t',rfl⟩:=ry;exact PySem.W.eq_bytes (bd I q vv)
  |_=>exact absurd (show false=true from hs) qa
 |_=>cases y <;> exact absurd (show false=true from hs) qa
theorem BO:OpR X (compareOp .NotEq) F8:=by
 intro pins s σ H x y v u Q I rx ry h
 obtain⟨hs,q⟩:=h
 cases x with
 |non=>
  cases rx
  cases y with
  |non=>cases ry;exact PySem.EqNone.ne_none_none (bd I q (by simp))
  |bl j=>cases ry;exact PySem.EqNone.ne_none_bool (bd I q (by simp))
  |int j=>obtain⟨t',rfl⟩:=ry;exact PySem.EqNone.ne_none_int (bd I q (by simp))
  |str j=>obtain⟨t',rfl⟩:=ry;exact PySem.EqNone.ne_none_str (bd I q (by simp))
  |_=>exact absurd (show false=true from hs) qa
 |bl i=>
  cases rx
  cases y with
  |non=>cases ry;exact PySem.EqNone.ne_bool_none (bd I q (by simp))
  |bl j=>cases ry;exact ne_bool (bd I q (congrArg not xO))
  |str j=>obtain⟨t',rfl⟩:=ry;exact PySem.EqMixed.ne_bool_str (bd I q (by simp))
  |_=>exact absurd (show false=true from hs) qa
 |int i=>
  obtain⟨t,rfl⟩:=rx
  cases y with
  |non=>cases ry;exact PySem.EqNone.ne_int_none (bd I q (by simp))
  |int j=>obtain⟨t',rfl⟩:=ry;exact ne_int (bd I q (congrArg not vq))
  |str j=>obtain⟨t',rfl⟩:=ry;exact PySem.EqMixed.ne_int_str (bd I q (by simp))
  |_=>exact absurd (show false=true from hs) qa
 |str i=>
  obtain⟨t,rfl⟩:=rx
  cases y with
  |non=>cases ry;exact PySem.EqNone.ne_str_none (bd I q (by simp))
  |bl j=>cases ry;exact PySem.EqMixed.ne_str_bool (bd I q (by simp))
  |int j=>obtain⟨t',rfl⟩:=ry;exact PySem.EqMixed.ne_str_int (bd I q (by simp))
  |str j=>obtain⟨t',rfl⟩:=ry;exact ne_str (bd I q (congrArg not vt))
  |_=>exact absurd (show false=true from hs) qa
 |byt i=>
  obtain⟨t,rfl⟩:=rx
  cases y with
  |byt j=>obtain⟨t',rfl⟩:=ry;exact PySem.W.ne_bytes (bd I q (congrArg not vv))
  |_=>exact absurd (show false=true from hs) qa
 |_=>cases y <;> exact absurd (show false=true from hs) qa
theorem Ea:OpR X (compareOp .Lt) (Ad fun i j=>.bl (decide (i < j))):=Ae fun _ _ _ _ _ _ _ q=>lt_int q
theorem Ec:OpR X (compareOp .LtE) (Ad fun i j=>.bl (decide (i≤j))):=Ae fun _ _ _ _ _ _ _ q=>le_int q
theorem Ed:OpR X (compareOp .Gt) (Ad fun i j=>.bl (decide (j < i))):=Ae fun _ _ _ _ _ _ _ q=>gt_int q
theorem Ee:OpR X (compareOp .GtE) (Ad fun i j=>.bl (decide (j≤i))):=Ae fun _ _ _ _ _ _ _ q=>ge_int q
theorem wn:OpR X (compareOp .Lt) (fun x y H Q=>∃i j,x=.str i∧y=.str j∧Q (.bl (decide (i.cps.toList < j.cps.toList))) H):=by
 intro pins s σ H x y v u Q I rx ry h
 obtain⟨i,j,rfl,rfl,q⟩:=h
 obtain⟨t,rfl⟩:=rx
 obtain⟨t',rfl⟩:=ry
 exact lt_str (bd I q rfl)
theorem wo:OpR X (compareOp .In) (fun x y H Q=>∃i j,x=.str i∧y=.str j∧Q (.bl (!(Builtin.Str.occurrences j i 0 j.length 1).isEmpty)) H):=by
 intro pins s σ H x y v u Q I rx ry h
 obtain⟨i,j,rfl,rfl,q⟩:=h
 obtain⟨t,rfl⟩:=rx
 obtain⟨t',rfl⟩:=ry
 exact in_str (bd I q rfl)
theorem OpR.or{f:Value→Value→Sem Value}{r r':R2}(h:OpR X f r)(h':OpR X f r'):OpR X f (fun x y H Q=>r x y H Q∨r' x y H Q):=by
 intro pins s σ H x y v u Q I rx ry q
 rcases q with q |q
 ·exact h pins s σ H x y v u Q I rx ry q
 ·exact h' pins s σ H x y v u Q I rx ry q
theorem nj(b:Expr){op:CmpOp}(h:op≠ .In:=by decide)(h2:op≠ .NotIn:=by decide):behindInMarks op b=false:=by
 have e1:(op == CmpOp.In)=false:=by cases op <;> first |rfl |exact absurd rfl h
 have e2:(op == CmpOp.NotIn)=false:=by cases op <;> first |rfl |exact absurd rfl h2
 cases b <;> simp[behindInMarks,e1,e2]
theorem Af{op:CmpOp}{r:R2}(ho:OpR X (compareOp op) r)(ha:PE X a ta)(hb:PE X b tb)(hm:behindInMarks op b=false):PE X (.Compare a [op] [b] pos) (D7 r ta tb):=by
 intro pins s σ H Q I h
 exact wpAny_Compare1 (CA ha hb I h fun v u s2 x y H2 I2 rx ry q=>ho pins s2 σ H2 x y v u Q I2 rx ry q) hm
def BP(t:TE):TT:=fun σ H Q=>t σ H fun x H'=>∃k,x=.bl k∧Q k H'
theorem Ag{op:CmpOp}{r:R2}(ho:OpR X (compareOp op) r)(ha:PE X a ta)(hb:PE X b tb)(hm:behindInMarks op b=false):PT X (.Compare a [op] [b] pos) (BP (D7 r ta tb)):=by
 intro pins s σ H Q I h
 refine wpAny_isTrue_Compare1 (dJ (ha pins s σ H _ I h) fun v s1 ⟨x,H1,I1,r1,q1⟩=>dJ (hb pins s1 σ H1 _ I1 q1) fun u s2 ⟨y,H2,I2,r2,q2⟩=>
  dJ (ho pins s2 σ H2 x y v u _ I2 r1 r2 q2) fun c s3 ⟨z,H3,I3,r3,k,e,q3⟩=>?_) hm
 subst e
 cases r3
 exact wpAny_truthy_bool ⟨H3,I3,q3⟩
def uk(r r':R2)(ta tb tc:TE):TE:=fun σ H Q=>ta σ H fun x H1=>tb σ H1 fun y H2=>r x y H2 fun z H3=>∃k,z=.bl k∧
 (if k=true then tc σ H3 fun w' H4=>r' y w' H4 Q else Q (.bl false) H3)
theorem xP{op op':CmpOp}{r r':R2}(ho:OpR X (compareOp op) r)(ho':OpR X (compareOp op') r')(ha:PE X a ta)(hb:PE X b tb)(hc:PE X c tc)
  (hm:lastMarks [op,op'] [b,c]=false:=by with_unfolding_all rfl):PE X (.Compare a [op,op'] [b,c] pos) (uk r r' ta tb tc):=by
 intro pins s σ H Q I h
 refine Compare_chain (dJ (ha pins s σ H _ I h) fun v s1 ⟨x,H1,I1,r1,q1⟩=>chain_link (dJ (hb pins s1 σ H1 _ I1 q1) fun u s2 ⟨y,H2,I2,r2,q2⟩=>
  dJ (ho pins s2 σ H2 x y v u _ I2 r1 r2 q2) fun d s3 ⟨z,H3,I3,r3,k,e,q3⟩=>?_)) hm
 subst e
 cases r3
 refine wpAny_truthy_bool ?_
 cases k with
 |false=>exact ite_ff ⟨.bl false,H3,I3,rfl,q3⟩
 |true=>exact ite_tt (chain_last (dJ (hc pins s3 σ H3 _ I3 q3) fun w' s4 ⟨z',H4,I4,r4,q4⟩=>ho' pins s4 σ H4 y z' u w' Q I4 r2 r4 q4))
theorem xQ{op op':CmpOp}{r r':R2}(ho:OpR X (compareOp op) r)(ho':OpR X (compareOp op') r')(ha:PE X a ta)(hb:PE X b tb)(hc:PE X c tc)
  (hm:lastMarks [op,op'] [b,c]=false:=by with_unfolding_all rfl):PT X (.Compare a [op,op'] [b,c] pos) (BP (uk r r' ta tb tc)):=by
 intro pins s σ H Q I h
 refine isTrue_chain (dJ (ha pins s σ H _ I h) fun v s1 ⟨x,H1,I1,r1,q1⟩=>test_link (dJ (hb pins s1 σ H1 _ I1 q1) fun u s2 ⟨y,H2,I2,r2,q2⟩=>
  dJ (ho pins s2 σ H2 x y v u _ I2 r1 r2 q2) fun d s3 ⟨z,H3,I3,r3,k,e,q3⟩=>?_)) hm
 subst e
 cases r3
 refine wpAny_truthy_bool ?_
 cases k with
 |false=>
  obtain⟨k',e',q'⟩:=q3
  cases e'
  exact ite_ff ⟨H3,I3,q'⟩
 |true=>
  refine ite_tt (test_last (dJ (hc pins s3 σ H3 _ I3 q3) fun w' s4 ⟨z',H4,I4,r4,q4⟩=>dJ (ho' pins s4 σ H4 y z' u w' _ I4 r2 r4 q4) fun d' s5 ⟨z2,H5,I5,r5,k2,e2,q5⟩=>?_))
  subst e2
  cases r5
  exact wpAny_truthy_bool ⟨H5,I5,q5⟩
def xR(K:Frag)(x:V)(H:Hp)(k:Bool):Prop:=
 match x with
 |.non=>k=false
 |.bl b=>k=b
 |.int i=>k=(i != 0)
 |.str y=>y.length≤sizeLine∧k=((y.length:Int) != 0)
 |.byt y=>y.size≤sizeLine∧k=((y.size:Int) != 0)
 |.ref p=>(∃xs,SqL K H p xs∧k= !xs.isEmpty)∨(∃xs,SqT K H p xs∧k= !xs.isEmpty)∨∃kvs,H p=some (.dK kvs)∧k= !kvs.isEmpty
 |_=>False
theorem ul{κ:Type}{kvs:List (κ×V)}{vs:List (κ×Value)}(r:KV kvs vs):(!vs.isEmpty)= !kvs.isEmpty:=by
 cases r <;> rfl
theorem nn{xs:List V}{its:List Value}(r:Vals xs its):(!its.toArray.isEmpty)= !xs.isEmpty:=by
 cases r <;> simp
theorem lG:(sizeLine:Nat) < 2 ^ 63:=by rw[sizeLine_eq];decide
theorem xS:Fv X (fun x H Q=>∃k,xR X.K x H k∧Q k H):=by
 intro pins s σ H x v Q I rx h
 obtain⟨k,e,q⟩:=h
 have hl:=lG
 have hs:sizeLine=16777216:=sizeLine_eq
 cases x with
 |non=>
  cases rx
  have e':k=false:=e
  subst e'
  exact truthy_none ⟨H,I,q⟩
 |bl b=>
  cases rx
  have e':k=b:=e
  subst e'
  exact wpAny_truthy_bool ⟨H,I,q⟩
 |int i=>
  obtain⟨t,rfl⟩:=rx
  have e':k=(i != 0):=e
  subst e'
  exact PySem.P.truthy_int ⟨H,I,q⟩
 |str y=>
  obtain⟨t,rfl⟩:=rx
  obtain⟨hy,e'⟩:y.length≤sizeLine∧k=((y.length:Int) != 0):=e
  subst e'
  exact PySem.P.truthy_str (by omega) ⟨H,I.tok _,q⟩
 |byt y=>
  obtain⟨t,rfl⟩:=rx
  obtain⟨hy,e'⟩:y.size≤sizeLine∧k=((y.size:Int) != 0):=e
  subst e'
  exact PySem.W.truthy_bytes (by omega) ⟨H,I.tok _,q⟩
 |ref p=>
  cases rx
  have e':(∃xs,SqL X.K H p xs∧k= !xs.isEmpty)∨(∃xs,SqT X.K H p xs∧k= !xs.isEmpty)∨∃kvs,H p=some (.dK kvs)∧k= !kvs.isEmpty:=e
  rcases e' with⟨xs,hx,e'⟩ |⟨xs,hx,e'⟩ |⟨kvs,hx,e'⟩
  ·subst e'
   obtain⟨its,r,pl,hz⟩:=I.list hx
   have hlen:=r.length
   exact wpAny_truthy_list pl.isList (by simp only[kB];omega) ⟨H,I.tok _,by rw[nn r];exact q⟩
  ·subst e'
   obtain⟨its,r,pl,hz⟩:=I.tuple hx
   have hlen:=r.length
   exact truthy_tuple pl (by simp only[kB];omega) ⟨H,I.tok _,by rw[nn r];exact q⟩
  ·subst e'
   obtain⟨hz,hS,vs,r,m⟩:kvs.length≤sizeLine∧(p == sysModules)=false∧∃vs,KV kvs vs∧s.heap.DictOf (mV X.prog X.w) p vs:=I.hok p _ hx
   have hlen:kvs.length=vs.length:=Paired.length r
   exact wpAny_truthy_dict hS m (by omega) ⟨H,I.tok _,by rw[ul r];exact q⟩
 |_=>exact(show False from e).elim
theorem xT(ha:PE X a ta)(he:∀whole,isTrue a X.env whole=(do let v ←whole;standAt a.pos;holding [v] (truthy v))):
  PT X a (fun σ H Q=>ta σ H fun x H'=>∃k,xR X.K x H' k∧Q k H'):=by
 intro pins s σ H Q I h
 exact isTrue_plain (dJ (ha pins s σ H _ I h) fun v s1 ⟨x,H1,I1,r1,q1⟩=>xS pins s1 σ H1 x v Q I1 r1 q1) (he _)
theorem um:OpR X (binaryOp .Add) (fun x y H Q=>∃i j,x=.str i∧y=.str j∧i.length+j.length≤sizeLine∧Q (.str (i++j)) H):=by
 intro pins s σ H x y v u Q I rx ry h
 obtain⟨i,j,rfl,rfl,hz,q⟩:=h
 obtain⟨t,rfl⟩:=rx
 obtain⟨t',rfl⟩:=ry
 exact add_str (fun t' tk=>⟨.str (i++j),H,I.tok _,⟨_,rfl⟩,q⟩) hz
theorem rT{x:V}{us:List Value}(r:Vals [x] us):∃u,us=[u]∧RelV x u:=by
 cases r with
 |cons r1 r2=>cases r2;exact⟨_,rfl,r1⟩
theorem wq:CallR X (.type "int") (fun xs H Q=>(∃i,xs=[.int i]∧Q (.int i) H)∨∃k,xs=[.bl k]∧Q (.int (if k then 1 else 0)) H):=by
 intro pins s σ H xs us Q I r h
 rcases h with⟨i,rfl,q⟩ |⟨k,rfl,q⟩
 ·obtain⟨u,rfl,t,rfl⟩:=rT r
  exact call_int_int ⟨.int i,H,I,⟨_,rfl⟩,q⟩
 ·obtain⟨u,rfl,r1⟩:=rT r
  cases r1
  exact call_int_bool ⟨.int (if k then 1 else 0),H,I.tok _,⟨_,rfl⟩,q⟩
end
end L2
namespace L2
open PySem PySem.Spec PyProof.Rows
structure ObjM (h:Heap) (x dx C:Addr) (mA:Str→Option Value):Prop where
 obj:h.get? x=some (instObj C dx)
 ns:h.Ns1 dx mA
 ne:dx≠x
theorem wt{h:Heap}{dx:Addr}{mA:Str→Option Value}(n:h.Ns1 dx mA):∃od,h.get? dx=some od∧∀name,lookIn name od=some (mA name):=by
 obtain⟨o,es,ep,ho,hd,hk,_,hm⟩:=n
 refine⟨o,ho,fun name=>?_⟩
 have e:=hm name
 unfold nsFind findBy at e
 rw[←Array.find?_toList]at e
 unfold lookIn
 rw[hd]
 dsimp only
 split
 ·rename_i y q
  rw[q]at e
  exact congrArg some e
 ·rename_i q
  rw[q]at e
  have a:es.toList.any (·.refKey)=false:=by
   rw[List.any_eq_false]
   intro y hy
   obtain⟨z,t,hkey⟩:=hk y (Array.mem_toList_iff.mp hy)
   simp[DictEntry.refKey,hkey]
  have a':¬es.toList.any (·.refKey)=true:=by rw[a];exact qa
  rw[if_neg a']
  exact congrArg some e
theorem ObjM.look{h:Heap}{x dx C:Addr}{mA:Str→Option Value}(I:ObjM h x dx C mA):∃od,PySem.W.InstAt h x (instObj C dx) C (some od)∧∀name,lookIn name od=some (mA name):=
 let ⟨od,ho,hl⟩:=wt I.ns
 ⟨od,⟨I.obj,rfl,rfl,ho⟩,hl⟩
section
variable {P:Program} {w:World} {H H':Hp} {h h':Heap} {a C dx:Addr} {fs fs':List (Str×V)}
theorem Ah(hok:HOk P w H h)(e:H a=some (.ins C dx fs)):∃mA,ObjM h a dx C mA∧(∀f,RelO (fs.lookup f) (mA f))∧PySem.Within mA (fs.map (·.1))∧fs.length≤1000∧H dx=some (.own a):=by
 obtain⟨d,z,ne,ob,mA,n,r,q⟩:=(show ObjOk P w H h a (.ins C dx fs)from hok a _ e)
 exact⟨mA,⟨ob,n,ne⟩,r,q,z,d⟩
end
structure Cls (K:Frag) (C:Addr):Prop where
 pg:PySem.W.plainGet K C Str.empty=true
 hd:PySem.W.hasDictIn K C=true
 po:PySem.W.plainOver K C=true
 sa:PySem.W.findIn K (.ref C) "__setattr__"=some (some (.builtin "object.__setattr__"))
theorem Cls.get{K:Frag}{C:Addr}(c:Cls K C)(f:Str):PySem.W.plainGet K C f=true:=c.pg
section
variable {X:Cx} {pins:List (Addr×Obj)} {σ:St} {H:Hp} {s:Shared} {A:Around} {E:Value→Shared→Prop} {Q:Value→Shared→Prop} {c:Value} {b:Bool}
inductive TyOf (K:Frag) (H:Hp):V→Value→Prop where
 |non:TyOf K H .non (.type "NoneType")
 |bl (x:Bool):TyOf K H (.bl x) (.type "bool")
 |int (i:Int):TyOf K H (.int i) (.type "int")
 |str (x:Str):TyOf K H (.str x) (.type "str")
 |flt (x:UInt64):TyOf K H (.flt x) (.type "float")
 |lst {a:Addr} {xs:List V} (e:H a=some (.lst xs)):TyOf K H (.ref a) (.type "list")
 |frz {a:Addr} {o:Obj} {xs:List V} (e:H a=some (.frz o (.lst xs))):TyOf K H (.ref a) (.type "list")
 |tup {a:Addr} {xs:List V} (e:H a=some (.tup xs)):TyOf K H (.ref a) (.type "tuple")
 |dK {a:Addr} {kvs:List (e8×V)} (e:H a=some (.dK kvs)):TyOf K H (.ref a) (.type "dict")
 |dT {a:Addr} {kvs:List (List e8×V)} (e:H a=some (.dT kvs)):TyOf K H (.ref a) (.type "dict")
 |ins {a C dx:Addr} {fs:List (Str×V)} (e:H a=some (.ins C dx fs)) (cl:Cls K C) (ha:PySem.W.findIn K (.ref C) "__class__"=some (some (.builtin "object.__class__")))
   (hn:PySem.W.specialIn K (.builtin "object.__class__") "__get__"=some (some (.builtin "getset_descriptor.__get__"))) (htk:PySem.W.takesIn K (.builtin "object.__class__")=some true)
   (hm:PySem.W.mroIn K C (.type "object")=some true):TyOf K H (.ref a) (.ref C)
theorem jx{x:V}{u t:Value}(I:Inv X pins σ H s)(rx:RelV x u)(ty:TyOf X.K H x t)(e:PySem.W.kitOne X.K t c=some b)(h:∀tk,Q (.bool b) {s with toks:=tk}):
  wpAny (model X.prog X.w) A (call (.builtin "isinstance") [u,c]) Q E s:=by
 cases ty with
 |non=>cases(show u=Value.none from rx);exact kia_one PySem.W.kitx_none I.kIn True.intro e (fun z=>nomatch z) h
 |bl y=>cases(show u=Value.bool y from rx);exact kia_one PySem.W.kitx_bool I.kIn True.intro e (fun z=>nomatch z) h
 |int i=>obtain⟨t,q⟩:=(show ∃t,u=Value.int i t from rx);cases q;exact kia_one PySem.W.kitx_int I.kIn True.intro e (fun z=>nomatch z) h
 |str y=>obtain⟨t,q⟩:=(show ∃t,u=Value.str y t from rx);cases q;exact kia_one PySem.W.kitx_str I.kIn True.intro e (fun z=>nomatch z) h
 |flt y=>obtain⟨t,q⟩:=(show ∃t,u=Value.float y t from rx);cases q;exact kia_one PySem.W.kitx_float I.kIn True.intro e (fun z=>nomatch z) h
 | @lst a xs ea=>
  cases(show u=Value.ref a from rx)
  obtain⟨_,_,n,_,h1⟩:=(show ObjOk X.prog X.w H s.heap a (.lst xs)from I.hok a _ ea)
  exact kia_one kitx_list I.kIn ⟨_,h1,rfl⟩ e (fun z=>nomatch z) h
 | @frz a ob xs ea=>
  cases(show u=Value.ref a from rx)
  obtain⟨_,_,_,n,_,h1⟩:=(show ObjOk X.prog X.w H s.heap a (.frz ob (.lst xs))from I.hok a _ ea)
  exact kia_one kitx_list I.kIn ⟨_,h1,rfl⟩ e (fun z=>nomatch z) h
 | @tup a xs ea=>
  cases(show u=Value.ref a from rx)
  obtain⟨_,_,_,p⟩:=(show ObjOk X.prog X.w H s.heap a (.tup xs)from I.hok a _ ea)
  obtain⟨o,h1,h2,_⟩:=p
  exact kia_one PySem.W.kitx_tuple I.kIn ⟨o,h1,h2⟩ e (fun z=>nomatch z) h
 | @dK a kvs ea=>
  cases(show u=Value.ref a from rx)
  obtain⟨_,_,vs,_,p⟩:=(show ObjOk X.prog X.w H s.heap a (.dK kvs)from I.hok a _ ea)
  obtain⟨o,es,ep,h1,h2,_⟩:=p
  exact kia_one kitx_dict I.kIn ⟨o,h1,h2.1⟩ e (fun z=>nomatch z) h
 | @dT a kvs ea=>
  cases(show u=Value.ref a from rx)
  obtain⟨_,_,xs,_,o,es,ep,h1,h2,_⟩:=(show ObjOk X.prog X.w H s.heap a (.dT kvs)from I.hok a _ ea)
  exact kia_one kitx_dict I.kIn ⟨o,h1,h2.1⟩ e (fun z=>nomatch z) h
 | @ins a C dx fs ea cl ha hn htk hm=>
  cases(show u=Value.ref a from rx)
  obtain⟨mA,O,_⟩:=Ah I.hok ea
  obtain⟨od,J,_⟩:=O.look
  exact kia_one (PySem.W.kitx_own (cl.get _) cl.hd ha hn htk hm) I.kIn J e (fun z=>nomatch z) h
end
end L2
namespace L2
open PySem PySem.Spec PyProof.Rows
structure Room (k:Nat) (A:Around):Prop where
 hd:A.handled=none
 dp:A.depth+3*k+5 < recursionLimit
 un:A.units+16*k+200 < cLine
theorem Room.mono{j k:Nat}{A:Around}(r:Room k A)(h:j≤k):Room j A:=⟨r.hd,by have:=r.dp;omega,by have:=r.un;omega⟩
theorem Room.deeper{k:Nat}{A:Around}(r:Room (k+1) A)(env:Env):Room k (A.deeper env):=
 ⟨r.hd,by have:=r.dp;show A.depth+1+3*k+5 < _;omega,by have:=r.un;show A.units+3+16*k+200 < _;omega⟩
theorem Room.in1{k:Nat}{A:Around}(r:Room (k+1) A):Room k A.in1:=
 ⟨r.hd,by have:=r.dp;show A.depth+3*k+5 < _;omega,by have:=r.un;show A.units+1+16*k+200 < _;omega⟩
theorem Room.depth{k:Nat}{A:Around}(r:Room k A):A.depth < recursionLimit:=by have:=r.dp;omega
theorem Room.units{k:Nat}{A:Around}(r:Room k A):A.units+64 < cLine:=by have:=r.un;omega
def xU:TA:=fun _ H Q=>Q [] H
def kD(ta:TE)(tr:TA):TA:=fun σ H Q=>ta σ H fun x H1=>tr σ H1 fun xs H2=>Q (x::xs) H2
section
variable {X:Cx} {e:Expr} {es:List Expr} {te:TE} {t:TA} {pos:Pos}
theorem iH:PA X [] xU:=fun _ _ _ _ H Q I h=>Calls.spliced_nil ⟨[],H,I,.nil,h⟩
theorem fT(ha:PE X e te)(hr:PA X es t)(hs:starEach (e::es) X.env=(false,eval e X.env)::starEach es X.env:=by rfl):PA X (e::es) (kD te t):=by
 intro pos pins s σ H Q I h
 rw[hs]
 show wpAny _ _ (spliced ((false,eval e X.env)::backTo pos (starEach es X.env))) _ _ s
 refine Calls.spliced_cons (dJ (ha pins s σ H _ I h) fun u s1 ⟨x,H1,I1,r1,q1⟩=>?_)
 exact dJ (hr pos pins s1 σ H1 _ I1 q1) fun us s2 ⟨xs,H2,I2,r2,q2⟩=>⟨x::xs,H2,I2,.cons r1 r2,q2⟩
def Fw(t:TA):TE:=fun σ H Q=>t σ H fun xs H1=>xs.length≤sizeLine∧∀p,H1 p=none→Q (.ref p) (upd H1 p (.tup xs))
def Fx(t:TA):TE:=fun σ H Q=>t σ H fun xs H1=>xs.length≤sizeLine∧∀p,H1 p=none→Q (.ref p) (upd H1 p (.lst xs))
theorem CK{x1}(h:PA X es t):PE X (.Tuple es x1 pos) (Fw t):=by
 intro pins s σ H Q I hq
 refine wpAny_Tuple_spliced (dJ (h pos pins s σ H _ I hq) fun us s1 ⟨xs,H1,I1,r,z,q⟩=>⟨by rw[←r.length];exact z,?_⟩)
 have hf:H1 s1.heap.objs.size=none:=I1.hok.fresh (fS _)
 refine⟨.ref s1.heap.objs.size,upd H1 s1.heap.objs.size (.tup xs),I1.laid (t':=s1.toks) (fun b u e=>gz _ e) (fS _) ?_,rfl,q _ hf⟩
 exact⟨z,us,r,⟨_,jU _ rfl,rfl,_,rfl⟩⟩
theorem CL(h:PA X es t):PE X (.List es pos) (Fx t):=by
 intro pins s σ H Q I hq
 refine wpAny_List_spliced (dJ (h pos pins s σ H _ I hq) fun us s1 ⟨xs,H1,I1,r,z,q⟩=>⟨by rw[←r.length];exact z,?_⟩)
 have hf:H1 s1.heap.objs.size=none:=I1.hok.fresh (fS _)
 refine⟨.ref s1.heap.objs.size,upd H1 s1.heap.objs.size (.lst xs),I1.laid (t':=s1.toks) (fun b u e=>gz _ e) (fS _) ?_,rfl,q _ hf⟩
 exact⟨z,us,0,r,jU _ rfl⟩
end
abbrev Sp:=List V→Hp→VK→XK→Prop
abbrev xV:=List Env→Hp→Shared→XK→Value→Shared→Prop
structure Env0 (P:Program) (w:World) (K:Frag) (mg:Str→Option Value) (base:Heap) (A:Around) (outer:List Env) (s:Shared) (H:Hp):Prop where
 frames:A.frames=some outer
 mod:Mod K mg base
 bs:∀b o,base.get? b=some o→s.heap.get? b=some o∧H b=none
 bsz:base.objs.size≤s.heap.objs.size
 funs:s.heap.FunFrames base outer
 frf:∀b∈xG outer,H b=none
 hok:HOk P w H s.heap
 bare:AllBare s.gens
 tab:∀b q,mN K b=some q→H b=some (.tbl q)
def CE(outer:List Env)(P:Program)(w:World)(H:Hp)(s:Shared)(Q:VK)(u:Value)(s':Shared):Prop:=
 ∃v H',s'.os=s.os∧AllBare s'.gens∧Un (xG outer) [] H H' s.heap s'.heap∧HOk P w H' s'.heap∧RelV v u∧Q v H'
def CR(CX:xV)(outer:List Env)(P:Program)(w:World)(H:Hp)(s:Shared)(Q:VK)(E:XK)(r:Result)(s':Shared):Prop:=
 match r with
 |.ok (.ret u)=>CE outer P w H s Q u s'
 |.ok _=>False
 |.error e=>CX outer H s E e s'
structure FnOk (P:Program) (w:World) (K:Frag) (mg:Str→Option Value) (base:Heap) (CX:xV) (k:Nat) (f:Addr) (fd:FuncData) (ps:List Str) (sp:Sp):Prop where
 len:∀vs H Q E,sp vs H Q E→vs.length=ps.length
 run:∀(A:Around) (outer:List Env) (s:Shared) (H:Hp) (args:Args) (us:List Value) (vs:List V) (Q:VK) (E:XK),Room k A→Env0 P w K mg base A outer s H→BindsTo s fd args (ps.zip us)→Vals vs us→sp vs H Q E→
  codeAny (model P w) A (.call (.ref f) args) (CR CX outer P w H s Q E) s
theorem FnOk.imp{P:Program}{w:World}{K:Frag}{mg:Str→Option Value}{base:Heap}{CX:xV}{k:Nat}{f:Addr}{fd:FuncData}{ps:List Str}{sp sp':Sp}(F:FnOk P w K mg base CX k f fd ps sp)
  (h:∀vs H Q E,sp' vs H Q E→sp vs H Q E):FnOk P w K mg base CX k f fd ps sp':=
 ⟨fun vs H Q E q=>F.len vs H Q E (h _ _ _ _ q),fun A outer s H args us vs Q E hr he hb hv hs=>F.run A outer s H args us vs Q E hr he hb hv (h _ _ _ _ hs)⟩
theorem Env0.in1{P:Program}{w:World}{K:Frag}{mg:Str→Option Value}{base:Heap}{A:Around}{outer:List Env}{s:Shared}{H:Hp}(e:Env0 P w K mg base A outer s H):
  Env0 P w K mg base A.in1 outer s H:=⟨e.frames,e.mod,e.bs,e.bsz,e.funs,e.frf,e.hok,e.bare,e.tab⟩
section
variable {X:Cx} {pins:List (Addr×Obj)} {σ:St} {H:Hp} {s s':Shared}
theorem Inv.env0(I:Inv X pins σ H s):Env0 X.prog X.w X.K X.mg X.base X.A X.stack s H:=
 ⟨I.ok.frames,I.ok.mod,I.bs,jK I.ok.bsz I.sz,I.stack,I.stkFree,I.hok,I.bare,I.tab⟩
theorem Inv.after{Q:VK}{u:Value}(I:Inv X pins σ H s)(h:CE X.stack X.prog X.w H s Q u s'):EP X pins σ Q u s':=by
 obtain⟨v,H',os,bare,un,hok,r,q⟩:=h
 obtain⟨hh,g,d,t,os'⟩:=s'
 obtain rfl:os'=s.os:=os
 exact⟨v,H',I.call (h':=hh) (g':=g) (d':=d) (t':=t) (ch:=[]) un hok bare (fun b z=>absurd z (by simp)),r,q⟩
end
def oQ(sp:Sp)(dvs:List V)(E:XK)(t:TA):TE:=fun σ H Q=>t σ H fun vs H1=>sp (vs++dvs) H1 Q E
def Binds(K:Frag)(fd:FuncData)(ps:List Str)(ds:List Value):Prop:=
 ∀(s:Shared) (us:List Value),K.In s.heap→(us++ds).length=ps.length→BindsTo s fd ⟨us,[]⟩ (ps.zip (us++ds))
theorem Binds.all{K:Frag}{fd:FuncData}{ps:List Str}(h:∀us:List Value,us.length=ps.length→bindArgs fd ⟨us,[]⟩=pure (ps.zip us)):Binds K fd ps []:=fun s us _ hl=>by
 rw[List.append_nil]at hl ⊢
 exact .of_eq (h us hl)
def uo(CX:xV)(X:Cx)(E:XK):Prop:=∀(pins:List (Addr×Obj)) (σ:St) (H:Hp) (s:Shared) (e:Value) (s':Shared),Inv X pins σ H s→CX X.stack H s E e s'→X.xe e s'
section
variable {X:Cx} {CX:xV} {k:Nat} {f C:Addr} {fd:FuncData} {ps:List Str} {sp:Sp} {dvs:List V} {ds:List Value} {E:XK} {x m:Str} {p pos apos:Pos} {e o:Expr} {es:List Expr} {ta:TE} {t:TA}
theorem xW{pins:List (Addr×Obj)}{σ:St}{H:Hp}{s:Shared}{Q:VK}{us:List Value}{vs:List V}(F:FnOk X.prog X.w X.K X.mg X.base CX k f fd ps sp)(hr:Room k X.A)(hb:Binds X.K fd ps ds)(hd:Vals dvs ds)(hx:uo CX X E)
  (I:Inv X pins σ H s) (r:Vals vs us) (h:sp (vs++dvs) H Q E):wpAny (model X.prog X.w) X.A (call (.ref f) us) (EP X pins σ Q) X.xe s:=by
 have r2:Vals (vs++dvs) (us++ds):=r.append hd
 have hl:(us++ds).length=ps.length:=by rw[←r2.length];exact F.len _ _ _ _ h
 refine wpAny_call (codeAny_mono (F.run X.A X.stack s H ⟨us,[]⟩ (us++ds) (vs++dvs) Q E hr I.env0 (hb s us I.kIn hl) r2 h) fun r s' hq=>?_)
 cases r with
 |error e=>exact hx pins σ H s e s' I hq
 |ok fl=>
  cases fl with
  |ret u=>exact I.after hq
  |next=>exact False.elim hq
  |brk=>exact False.elim hq
  |cont=>exact False.elim hq
theorem Ai(F:FnOk X.prog X.w X.K X.mg X.base CX k f fd ps sp)(hr:Room k X.A)(hg:Gl X x)(hm:X.mg x=some (.ref f))(hk:keepIn X.K (.ref f)=true)(hb:Binds X.K fd ps ds)(hd:Vals dvs ds)(hx:uo CX X E)
  (ha:PA X (e::es) t) (hdb:(x == ("__debug__":Str))=false:=by decide) (he:starEach (e::es) X.env=(false,eval e X.env)::starEach es X.env:=by rfl) (hpl:(backTo pos (starEach es X.env)).any (·.1)=false:=by rfl):
  PE X (.Call (.Name x p) (e::es) [] pos) (oQ sp dvs E t):=by
 intro pins s σ H Q I h
 refine wpAny_Call_Name_kw (qd I hg hm ?_ hdb)
 refine PySem.W.callWith_K (h₀:=X.base) I.ok.mod.kin hk (dJ (ha pos pins s σ H _ I h) fun us s1 ⟨vs,H1,I1,r,q⟩=>⟨I1.kIn,?_⟩) he hpl
 exact xW F hr hb hd hx I1 r q
end
structure FnScope (N P:List Str) (sc:Scope):Prop where
 kind:sc.kind=.function
 co:sc.isCoroutine=false
 gen:sc.isGenerator=false
 nd:N.Nodup
 pre:N.take P.length=P
 par:∀x∈P,sc.names.lookup x=some .local∨sc.names.lookup x=some .cell
 nofree:∀y∈sc.names,y.2≠ .free
theorem oR{kindOf:Str→Option NameKind}{x:Str}:∀{binds:List (Str×Value)} {m:Str→Option Value},(∀v,(x,v)∉binds)→bindL kindOf binds m x=m x
 |[],_,_=>rfl
 |(n,v)::r,m,h=>by
  unfold bindL
  rw[oR fun w hw=>h w (g6 _ hw)]
  split
  ·have:x≠n:=by rintro rfl;exact h v ir
   simp[this]
  ·rfl
theorem oS{kindOf:Str→Option NameKind}{x:Str}:∀{binds:List (Str×Value)} {m:Str→Option Value},(∀v,(x,v)∉binds)→bindC kindOf binds m x=m x
 |[],_,_=>rfl
 |(n,v)::r,m,h=>by
  unfold bindC
  rw[oS fun w hw=>h w (g6 _ hw)]
  split
  ·rfl
  ·have:x≠n:=by rintro rfl;exact h v ir
   simp[this]
theorem oT{kindOf:Str→Option NameKind}{x:Str}{v:Value}:∀{P:List Str} {vs:List Value} {i:Nat} {m:Str→Option Value},P.Nodup→P[i]? =some x→vs[i]? =some v→kindOf x=some .local→
  bindL kindOf (P.zip vs) m x=some v
 |[],_,_,_,_,h,_,_=>by simp at h
 |_::_,[],_,_,_,_,h,_=>by simp at h
 |p::P,w::vs,0,m,nd,h1,h2,hk=>by
  simp at h1 h2;subst h1;subst h2
  show bindL kindOf ((p,w)::P.zip vs) m p=_
  unfold bindL
  rw[oR fun v hv=>(List.nodup_cons.mp nd).1 (List.of_mem_zip hv).1,if_pos hk]
  simp
 |p::P,w::vs,i+1,m,nd,h1,h2,hk=>by
  show bindL kindOf ((p,w)::P.zip vs) m x=_
  unfold bindL
  exact oT (i:=i) (List.nodup_cons.mp nd).2 (by simpa using h1) (by simpa using h2) hk
theorem oU{kindOf:Str→Option NameKind}{x:Str}{v:Value}:∀{P:List Str} {vs:List Value} {i:Nat} {m:Str→Option Value},P.Nodup→P[i]? =some x→vs[i]? =some v→kindOf x≠some .local→
  bindC kindOf (P.zip vs) m x=some v
 |[],_,_,_,_,h,_,_=>by simp at h
 |_::_,[],_,_,_,_,h,_=>by simp at h
 |p::P,w::vs,0,m,nd,h1,h2,hk=>by
  simp at h1 h2;subst h1;subst h2
  show bindC kindOf ((p,w)::P.zip vs) m p=_
  unfold bindC
  rw[oS fun v hv=>(List.nodup_cons.mp nd).1 (List.of_mem_zip hv).1,if_neg hk]
  simp
 |p::P,w::vs,i+1,m,nd,h1,h2,hk=>by
  show bindC kindOf ((p,w)::P.zip vs) m x=_
  unfold bindC
  exact oU (i:=i) (List.nodup_cons.mp nd).2 (by simpa using h1) (by simpa using h2) hk
def iv(N:List Str)(vs:List V):St:=vs.map some++List.replicate (N.length - vs.length) none
def oA(CX:xV)(P:Program)(w:World)(K:Frag)(mg:Str→Option Value)(base:Heap)(N:List Str)(qual:Str)(scope:Scope)(f:Addr)(cd:Value)(A:Around)(outer:List Env)(s:Shared)(H:Hp)(E:XK):Cx where
 prog:=P
 w:=w
 K:=K
 mg:=mg
 base:=base
 A:=A.deeper (envOfC qual scope s.heap.objs.size f cd)
 N:=N
 s₀:=s
 H₀:=H
 env:=envOfC qual scope s.heap.objs.size f cd
 outer:=outer
 stack:=envOfC qual scope s.heap.objs.size f cd::outer
 ex:=[]
 calm:=true
 fn:=fun _=>true
 pn:=[]
 xe:=fun e s'=>wpAny (model P w) (A.deeper (envOfC qual scope s.heap.objs.size f cd)) (leaving (envOfC qual scope s.heap.objs.size f cd) e) (fun _ s''=>CX outer H s E e s'') (fun e' s''=>CX outer H s E e' s'') s'
theorem rV{sc:Scope}{n:Nat}{x:Str}(h:sc.names.lookup x=some .cell):∃c,(cellsFrom n sc.names []).lookup x=some c:=by
 have q:=PySem.W.cellsFrom_some sc.names n [] (.inl h)
 exact Option.isSome_iff_exists.mp q
theorem wu{CX:xV}{P:Program}{w:World}{K:Frag}{mg:Str→Option Value}{base:Heap}{N ps:List Str}{qual:Str}{scope:Scope}{f:Addr}{cd:Value}{A:Around}{outer:List Env}{s s1:Shared}{H:Hp}{E:XK}{us:List Value}{vs:List V}
  (S:FnScope N ps scope) (hd:A.handled=none) (e0:Env0 P w K mg base A outer s H) (hl:vs.length=ps.length) (r:Vals vs us)
  (x:InCallC s s.heap.objs.size (bindL (envOfC qual scope s.heap.objs.size f cd).kindOf (ps.zip us) fun _=>none) (cellsFrom (s.heap.objs.size+1) scope.names []) (bindC (envOfC qual scope s.heap.objs.size f cd).kindOf (ps.zip us) fun _=>none) s1):
  Inv (oA CX P w K mg base N qual scope f cd A outer s H E) [] (iv N vs) H s1:=by
 have hpl:ps.length≤N.length:=by have:=congrArg List.length S.pre;rw[List.length_take]at this;omega
 obtain⟨h1,tk,rfl,hk⟩:=x.done
 have noA:∀b:Addr,b∉(oA CX P w K mg base N qual scope f cd A outer s H E).ex:=fun b z=>absurd (show b∈([]:List Addr)from z) (by simp)
 refine⟨⟨e0.mod,S.kind,rfl,rfl,fS _,fun y z c h1 h2=>?_,fun y hy=>?_,fun y c _ h=>?_,fun _=>hd,Around.frames_deeper e0.frames,.inr ⟨rfl,rfl⟩,fun b z=>absurd z (noA b),e0.bs,e0.bsz,fun b _ _=>noA b,fun b z=>absurd z (noA b),e0.funs,e0.frf,e0.tab⟩,
  rfl,e0.bare,Un.kept hk,⟨_,x.toInCall.ns,fun i y v h1 h2 h3=>?_⟩,fun y c h=>⟨_,x.cell y c h⟩,e0.hok.fresh (fS _),fun y c h=>?_,fun p hp=>absurd (show p∈([]:List (Addr×Obj))from hp) (by simp),e0.hok.kept hk,?_⟩
 ·exact name_of_addr x.apart (PySem.mem_of_lookup h1) (PySem.mem_of_lookup h2)
 ·have hy:scope.names.lookup y=some .cell∨scope.names.lookup y=some .free:=hy
  rcases hy with hy |hy
  ·exact rV hy
  ·exact absurd rfl (S.nofree _ (PySem.mem_of_lookup hy))
 ·exact jV (x.above y c (PySem.mem_of_lookup h))
 ·have hi:i < vs.length:=by
   unfold iv at h2
   by_cases hi:i < vs.length
   ·exact hi
   ·rw[zR (by simpa using hi)]at h2
    rw[List.getElem?_replicate]at h2
    split at h2 <;> cases h2
  have ha:vs[i]? =some v:=by
   unfold iv at h2
   rw[List.getElem?_append_left (by simpa using hi),we]at h2
   cases e:vs[i]? with
   |none=>rw[e]at h2;cases h2
   |some a=>rw[e]at h2;cases h2;rfl
  obtain⟨u,hu,rv⟩:=r.get ha
  have hp:ps[i]? =some y:=by
   rw[←S.pre,List.getElem?_take_of_lt (by omega)];exact h1
  have ndP:ps.Nodup:=by rw[←S.pre];exact S.nd.sublist (List.take_sublist _ _)
  refine⟨u,rv,?_⟩
  rcases S.par y (List.mem_of_getElem? hp)with k |k
  ·exact .inl ⟨k,oT ndP hp hu k⟩
  ·obtain⟨c,e⟩:=rV (n:=s.heap.objs.size+1) k
   refine .inr ⟨.inl k,c,e,?_⟩
   have q:=x.cell y c e
   rw[oU ndP hp hu (by show scope.names.lookup y≠_;rw[k];decide)]at q
   exact q
 ·exact e0.hok.fresh (jV (x.above y c (PySem.mem_of_lookup h)))
 ·unfold iv
  show _=N.length
  rw[vn,eQ,List.length_replicate]
  omega
theorem BQ{CX:xV}{P:Program}{w:World}{K:Frag}{mg:Str→Option Value}{base:Heap}{k:Nat}{f:Addr}{name qual:Str}{params:Arguments}{body:List Stmt}{scope:Scope}{dV kV doc pm cdv ct oc:Value}{an od:Option Addr}
  {osl:Array (Option Value)} {N ps:List Str} {sp:Sp} (lk:K.lookup f=some ⟨oc,od,.func (fnOf name qual params body scope dV kV doc pm an cdv ct),osl⟩) (hcd:codeIn K cdv qual=true) (S:FnScope N ps scope)
  (len:∀vs H Q E,sp vs H Q E→vs.length=ps.length)
  (hbody:∀(A:Around) (outer:List Env) (s:Shared) (H:Hp) (vs:List V) (Q:VK) (E:XK),Room k (A.deeper (envOfC qual scope s.heap.objs.size f cdv))→sp vs H Q E→
   ∃t,PSs (oA CX P w K mg base N qual scope f cdv A outer s H E) body t∧t {nx:=fun _ H'=>Q .non H',rt:=Q} (iv N vs) H):
  FnOk P w K mg base CX (k+1) f (fnOf name qual params body scope dV kV doc pm an cdv ct) ps sp:=by
 refine⟨len,fun A outer s H args us vs Q E hr e0 hb r hsp=>?_⟩
 have hl:=len _ _ _ _ hsp
 have KX:K.In s.heap:=e0.mod.kin.keeps fun b o e=>(e0.bs b o e).1
 have lim:s.heap.NoLimit:=e0.mod.nolimit.keeps fun b o e=>(e0.bs b o e).1
 have hkind:∀y∈ps.zip us,scope.names.lookup y.1=some .local∨(scope.names.lookup y.1=some .cell∧((cellsFrom (s.heap.objs.size+1) scope.names []).lookup y.1).isSome=true):=fun⟨n,v⟩ hy=>by
  rcases S.par n (List.of_mem_zip hy).1 with q |q
  ·exact .inl q
  ·exact .inr ⟨q,PySem.W.cellsFrom_some _ _ _ (.inl q)⟩
 refine codeAny_call_function hr.depth (KX _ _ lk) rfl S.co S.gen rfl (PySem.W.codeRec_of KX hcd) (hb _ _ _ _ ?_)
 refine wpAny_newFunctionEnv_cells S.kind hkind fun env he s1 x=>?_
 subst he
 refine⟨lim.keeps x.toInCall.keep,codeAny_func ?_⟩
 obtain⟨t,ht,hq⟩:=hbody A outer s H vs Q E (hr.deeper _) hsp
 have I:Inv (oA CX P w K mg base N qual scope f cdv A outer s H E) [] (iv N vs) H s1:=wu S hr.hd e0 hl r x
 refine wpAny_mono (ht [] s1 (iv N vs) H _ I hq) (fun fl s' hs=>?_) fun e s' hs=>hs
 have fin:∀{σ':St} {H':Hp} {v:V} {u:Value},Inv (oA CX P w K mg base N qual scope f cdv A outer s H E) [] σ' H' s'→RelV v u→Q v H'→CE outer P w H s Q u s':=
  fun {σ' H' v u} J rv q=>⟨v,H',J.os,J.bare,J.base,J.hok,rv,q⟩
 cases fl with
 |ret u=>
  obtain⟨v,σ',H',J,rv,q⟩:=hs
  exact fin J rv q
 |next=>
  obtain⟨σ',H',J,q⟩:=hs
  exact fin (v:=V.non) (u:=Value.none) J rfl q
 |brk=>
  obtain⟨_,_,_,q⟩:=hs
  exact False.elim q
 |cont=>
  obtain⟨_,_,_,q⟩:=hs
  exact False.elim q
end L2
namespace L2
open PySem PySem.Spec PyProof.Rows
section
variable {X:Cx} {x:Str} {p pos:Pos} {e:Expr} {es:List Expr} {t:TA} {id T:String} {r:List V→Hp→VK→Prop}
def Fy(r:List V→Hp→VK→Prop)(t:TA):TE:=fun σ H Q=>t σ H fun vs H1=>r vs H1 Q
theorem nq (hc:CallR X (.builtin id) r) (hg:Gl X x) (hm:X.mg x=none) (hv:bootBuiltins x=some (.builtin id)) (ha:PA X (e::es) t) (hn:x≠"__name__":=by decide) (hdb:(x == ("__debug__":Str))=false:=by decide)
  (he:starEach (e::es) X.env=(false,eval e X.env)::starEach es X.env:=by rfl) (hpl:(backTo pos (starEach es X.env)).any (·.1)=false:=by rfl):PE X (.Call (.Name x p) (e::es) [] pos) (Fy r t):=by
 intro pins s σ H Q I h
 refine wpAny_Call_Name_kw (jW I hg hm hv ?_ hn hdb)
 exact PyProof.Rows.callWith_builtin1 (dJ (ha pos pins s σ H _ I h) fun us s1 ⟨vs,H1,I1,r1,q1⟩=>hc pins s1 σ H1 vs us Q I1 r1 q1) he hpl
theorem lI (hc:CallR X (.type T) r) (hg:Gl X x) (hm:X.mg x=none) (hv:bootBuiltins x=some (.type T)) (ha:PA X (e::es) t) (hn:x≠"__name__":=by decide) (hdb:(x == ("__debug__":Str))=false:=by decide)
  (he:starEach (e::es) X.env=(false,eval e X.env)::starEach es X.env:=by rfl) (hpl:(backTo pos (starEach es X.env)).any (·.1)=false:=by rfl):PE X (.Call (.Name x p) (e::es) [] pos) (Fy r t):=by
 intro pins s σ H Q I h
 refine wpAny_Call_Name_kw (jW I hg hm hv ?_ hn hdb)
 exact PyProof.Rows.callWith_type1 (dJ (ha pos pins s σ H _ I h) fun us s1 ⟨vs,H1,I1,r1,q1⟩=>hc pins s1 σ H1 vs us Q I1 r1 q1) he hpl
end
end L2
namespace HT
open PySem PyProof.Rows
section
open PySem.SeqAt
open PySem.AutoSeq1 (wpAny_loadPart')
open PySem.MeetsSeq PySem.MeetsSeq2 PySem.MeetsSeq3
end
section
variable {prog:Program} {w:World} {A:Around} {E:Value→Shared→Prop} {s:Shared}
def nr(n d:Nat):Option Int→Nat
 |none=>d
 |some v=>if v < 0 then (v+(n:Int)).toNat else min v.toNat n
theorem Aj(n d k:Nat):nr n d (some (k:Int))=min k n:=by
 show(if (k:Int) < 0 then ((k:Int)+(n:Int)).toNat else min (k:Int).toNat n)=min k n
 rw[if_neg (by omega),Int.toNat_natCast]
end
end HT
namespace L2
open PySem PySem.Spec PyProof.Rows
abbrev TO:=St→Hp→(Option Int→Hp→Prop)→Prop
def PO(X:Cx)(e:Option Expr)(t:TO):Prop:=
 ∀(pins:List (Addr×Obj)) (s:Shared) (σ:St) (H:Hp) (Q:Option Int→Hp→Prop),Inv X pins σ H s→t σ H Q→
  wpAny (model X.prog X.w) X.A (evalPart e X.env) (fun u s'=>∃o H',Inv X pins σ H' s'∧IsPart u o∧Q o H') X.xe s
def Ak:TO:=fun _ H Q=>Q none H
def Ef(t:TE):TO:=fun σ H Q=>t σ H fun x H1=>∃i,x=.int i∧Q (some i) H1
section
variable {X:Cx} {e:Expr} {te:TE} {lo hi:Option Expr} {tl th:TO} {pos p2:Pos}
theorem Al:PO X none Ak:=by
 intro pins s σ H Q I h
 rw[evalPart_none]
 exact wpAny_pure ⟨none,H,I,.none,h⟩
theorem Am(h:PE X e te):PO X (some e) (Ef te):=by
 intro pins s σ H Q I hw
 rw[evalPart_some]
 refine dJ (h pins s σ H _ I hw) fun u s1 ⟨x,H1,I1,r1,q1⟩=>?_
 obtain⟨i,rfl,q⟩:=q1
 obtain⟨t,rfl⟩:=r1
 exact⟨some i,H1,I1,.int i t,q⟩
def SlR(X:Cx)(r:V→Option Int→Option Int→Hp→VK→Prop):Prop:=
 ∀(pins:List (Addr×Obj)) (s:Shared) (σ:St) (H:Hp) (x:V) (v vl vu:Value) (lo hi:Option Int) (sl:Addr) (Q:VK),Inv X pins σ H s→RelV x v→s.heap.IsSliceOf sl vl vu .none→IsPart vl lo→IsPart vu hi→r x lo hi H Q→
  ∃T id,typeLookup (.type T) "__getitem__"=pure (some (.builtin id))∧s.TypeIs v T∧wpAny (model X.prog X.w) X.A (getItem v (.ref sl)) (EP X pins σ Q) X.xe s
theorem SlR.or{r r':V→Option Int→Option Int→Hp→VK→Prop}(h:SlR X r)(h':SlR X r'):SlR X (fun x lo hi H Q=>r x lo hi H Q∨r' x lo hi H Q):=by
 intro pins s σ H x v vl vu lo hi sl Q I rx hs pl pu q
 rcases q with q |q
 ·exact h pins s σ H x v vl vu lo hi sl Q I rx hs pl pu q
 ·exact h' pins s σ H x v vl vu lo hi sl Q I rx hs pl pu q
def Gg(r:V→Option Int→Option Int→Hp→VK→Prop)(te:TE)(tl th:TO):TE:=fun σ H Q=>te σ H fun x H1=>tl σ H1 fun l H2=>th σ H2 fun u H3=>r x l u H3 Q
theorem xX{r:V→Option Int→Option Int→Hp→VK→Prop}(hr:SlR X r)(he:PE X e te)(hl:PO X lo tl)(hu:PO X hi th):PE X (.Subscript e (.Slice lo hi none p2) pos) (Gg r te tl th):=by
 intro pins s σ H Q I h
 refine Subscript_ (dJ (he pins s σ H _ I h) fun v s1 ⟨x,H1,I1,r1,q1⟩=>?_)
 refine wpAny_Slice (dJ (hl pins s1 σ H1 _ I1 q1) fun vl s2 ⟨l,H2,I2,pl,q2⟩=>dJ (hu pins s2 σ H2 _ I2 q2) fun vu s3 ⟨u,H3,I3,pu,q3⟩=>?_)
 rw[evalPart_none]
 refine wpAny_pure ?_
 have I4:Inv X pins σ H3 {s3 with heap:=s3.heap.push {cls:=.type "slice",data:=.fields #[vl,vu,.none]}}:=I3.kept (t':=s3.toks) fun b ob q=>gz _ q
 obtain⟨T,id,hT,ht,hg⟩:=hr pins {s3 with heap:=s3.heap.push {cls:=.type "slice",data:=.fields #[vl,vu,.none]}} σ H3 x v vl vu l u s3.heap.objs.size Q I4 r1 (Heap.IsSliceOf.new ..) pl pu q3
 show wpAny (model X.prog X.w) X.A (subscriptTail e (.Slice lo hi none p2) v (.ref s3.heap.objs.size)) (EP X pins σ Q) X.xe {s3 with heap:=s3.heap.push {cls:=.type "slice",data:=.fields #[vl,vu,.none]}}
 exact tail_any (ops:=[.ref s3.heap.objs.size,v]) ht hT hg (by with_unfolding_all rfl)
def wv(xs:List V)(lo hi:Option Int):List V:=(xs.drop (HT.nr xs.length 0 lo)).take (HT.nr xs.length xs.length hi - HT.nr xs.length 0 lo)
theorem rW(xs:List V)(lo hi:Option Int):(wv xs lo hi).length≤xs.length:=by
 unfold wv
 rw[List.length_take,List.length_drop]
 omega
end
end L2
namespace L2
open PySem PySem.Spec PyProof.Rows
def DN(n:Nat)(i:Int):Option Nat:=if 0≤i then (if i < n then some i.toNat else none)else if -(n:Int)≤i then some (i+n).toNat else none
def atI{α:Type}(xs:List α)(i:Int):Option α:=(DN xs.length i).bind fun j=>xs[j]?
theorem An{n:Nat}{i:Int}{j:Nat}(h:DN n i=some j):seqIndex? i n=some j∧j < n∧ -(n:Int)≤i∧i < n:=by
 unfold DN at h
 by_cases h0:0≤i
 ·rw[if_pos h0]at h
  by_cases h1:i < n
  ·rw[if_pos h1]at h
   have e:i.toNat=j:=Option.some.inj h
   exact⟨by rw[seqIndex_of h0 h1,e],by omega,by omega,h1⟩
  ·rw[if_neg h1]at h;cases h
 ·rw[if_neg h0]at h
  by_cases h1: -(n:Int)≤i
  ·rw[if_pos h1]at h
   have e:(i+n).toNat=j:=Option.some.inj h
   exact⟨by rw[seqIndex_neg (by omega) h1,e],by omega,h1,by omega⟩
  ·rw[if_neg h1]at h;cases h
theorem qg{α:Type}{xs:List α}{i:Int}{v:α}(h:atI xs i=some v):∃j,seqIndex? i xs.length=some j∧xs[j]? =some v∧j < xs.length∧ -(xs.length:Int)≤i∧i < xs.length:=by
 unfold atI at h
 cases e:DN xs.length i with
 |none=>rw[e]at h;cases h
 |some j=>
  rw[e]at h
  obtain⟨h1,h2,h3,h4⟩:=An e
  exact⟨j,h1,h,h2,h3,h4⟩
def vw(b:Expr):Prop:=∀o i,subscripted b false o i=operate [o,i] (getItem o i)
def IxR(X:Cx)(r:R2):Prop:=
 ∀(value slice:Expr) (pins:List (Addr×Obj)) (s:Shared) (σ:St) (H:Hp) (x y:V) (v u:Value) (Q:VK),Inv X pins σ H s→RelV x v→RelV y u→r x y H Q→
  subscripted slice false v u=operate [v,u] (getItem v u)→wpAny (model X.prog X.w) X.A (subscriptTail value slice v u) (EP X pins σ Q) X.xe s
def MtR(X:Cx)(id:String)(r:V→List V→Hp→VK→Prop):Prop:=
 ∀(pins:List (Addr×Obj)) (s:Shared) (σ:St) (H:Hp) (x:V) (xs:List V) (v:Value) (us:List Value) (Q:VK),Inv X pins σ H s→RelV x v→Vals xs us→r x xs H Q→
  wpAny (model X.prog X.w) X.A (call (.builtin id) (v::us)) (EP X pins σ Q) X.xe s
section
variable {X:Cx} {a b:Expr} {ta tb:TE} {pos:Pos}
theorem IxR.or{r r':R2}(h:IxR X r)(h':IxR X r'):IxR X (fun x y H Q=>r x y H Q∨r' x y H Q):=by
 intro value slice pins s σ H x y v u Q I rx ry q hs
 rcases q with q |q
 ·exact h value slice pins s σ H x y v u Q I rx ry q hs
 ·exact h' value slice pins s σ H x y v u Q I rx ry q hs
theorem MtR.or{id:String}{r r':V→List V→Hp→VK→Prop}(h:MtR X id r)(h':MtR X id r'):MtR X id (fun x xs H Q=>r x xs H Q∨r' x xs H Q):=by
 intro pins s σ H x xs v us Q I rx rs q
 rcases q with q |q
 ·exact h pins s σ H x xs v us Q I rx rs q
 ·exact h' pins s σ H x xs v us Q I rx rs q
theorem Eg{r:R2}(hr:IxR X r)(ha:PE X a ta)(hb:PE X b tb)(hs:vw b):PE X (.Subscript a b pos) (D7 r ta tb):=by
 intro pins s σ H Q I h
 exact Subscript_ (CA ha hb I h fun v u s2 x y H2 I2 rx ry q=>hr a b pins s2 σ H2 x y v u Q I2 rx ry q (hs _ _))
def Eh(K:Frag):R2:=fun x y H Q=>∃p xs i v,x=.ref p∧y=.int i∧SqL K H p xs∧atI xs i=some v∧Q v H
def El(K:Frag):R2:=fun x y H Q=>∃p xs i v,x=.ref p∧y=.int i∧SqT K H p xs∧atI xs i=some v∧Q v H
def Em:R2:=fun x y H Q=>∃z i c,x=.str z∧y=.int i∧z.length≤sizeLine∧atI z.cps.toList i=some c∧Q (.str ⟨#[c]⟩) H
theorem ix_list:IxR X (Eh X.K):=by
 intro value slice pins s σ H x y v u Q I rx ry h hs
 obtain⟨p,xs,i,z,rfl,rfl,hq,he,q⟩:=h
 cases rx
 obtain⟨t,rfl⟩:=ry
 obtain⟨its,r,pl,hz⟩:=I.list hq
 obtain⟨j,h1,h2,h3,h4,h5⟩:=qg he
 obtain⟨w,ew,rw'⟩:=r.get h2
 have hl:=r.length
 have hn:=lG
 have fin:EP X pins σ Q w s:=⟨z,H,I,rw',q⟩
 by_cases h0:0≤i
 ·have hj:i.toNat=j:=by
   rw[seqIndex_of h0 h5]at h1
   exact Option.some.inj h1
  exact item_listR pl.isList h0 (by omega) (by rw[hj];simpa using ew) fin hs
 ·have hj:(i+(its.toArray.size:Int)).toNat=j:=by
   rw[seqIndex_neg (by omega) h4]at h1
   rw[kB,←hl]
   exact Option.some.inj h1
  exact subscriptTail_builtinR (x:=w) pl.isList.typeIs slot_list_getitem.lookup
   (wpAny_getItem_list_neg (Q:=fun r s'=>r=w∧EP X pins σ Q r s') pl.isList (by omega) (by rw[kB] <;> omega) (by omega) (by rw[hj];simpa using ew) ⟨rfl,fin⟩) hs
theorem ix_tup:IxR X (El X.K):=by
 intro value slice pins s σ H x y v u Q I rx ry h hs
 obtain⟨p,xs,i,z,rfl,rfl,hq,he,q⟩:=h
 cases rx
 obtain⟨t,rfl⟩:=ry
 obtain⟨its,r,pl,hz⟩:=I.tuple hq
 obtain⟨j,h1,h2,h3,h4,h5⟩:=qg he
 obtain⟨w,ew,rw'⟩:=r.get h2
 have hl:=r.length
 have hn:=lG
 have fin:EP X pins σ Q w s:=⟨z,H,I,rw',q⟩
 exact subscriptTail_builtinR (x:=w) pl.typeIs slot_tuple_getitem.lookup
  (getItem_tuple (j:=j) (Q:=fun r s'=>r=w∧EP X pins σ Q r s') pl (by omega) (by omega) (by rw[kB,←hl];exact h1) (by simpa using ew) ⟨rfl,fin⟩) hs
theorem CM:IxR X Em:=by
 intro value slice pins s σ H x y v u Q I rx ry h hs
 obtain⟨z,i,c,rfl,rfl,hz,he,q⟩:=h
 obtain⟨t,rfl⟩:=rx
 obtain⟨t',rfl⟩:=ry
 obtain⟨j,h1,h2,h3,h4,h5⟩:=qg he
 have hl:z.cps.toList.length=z.length:=by simp[Str.length]
 rw[hl]at h1 h4 h5
 have hn:=lG
 exact tail_any (typeIs_str s z t) slot_str_getitem.lookup (getItem_str (c:=c) (by
  have e1:decide (i < -(2 ^ 63:Int))=false:=decide_eq_false (by omega)
  have e2:decide (i≥2 ^ 63)=false:=decide_eq_false (by omega)
  rw[e1,e2,Bool.or_false]) (by rw[h1];simpa using h2) ⟨.str ⟨#[c]⟩,H,I.tok _,⟨_,rfl⟩,q⟩) hs
def F9(K:Frag):R2:=fun x y H Q=>Eh K x y H Q∨El K x y H Q∨Em x y H Q
theorem CN:IxR X (F9 X.K):=ix_list.or (ix_tup.or CM)
theorem Inv.lst{pins:List (Addr×Obj)}{σ:St}{H:Hp}{s:Shared}{p:Addr}{xs:List V}(I:Inv X pins σ H s)(h:H p=some (.lst xs)):
  ∃(its:List Value) (n:Nat),Vals xs its∧s.heap.get? p=some {cls:=.type "list",data:=.seq its.toArray n}∧xs.length≤sizeLine:=by
 obtain⟨z,its,n,r,e⟩:=I.hok p _ h
 exact⟨its,n,r,e,z⟩
theorem qh(lo hi:Option Int)(n:Nat):(sliceBounds lo hi none n).1=((HT.nr n 0 lo:Nat):Int)∧(sliceBounds lo hi none n).2.1=((HT.nr n n hi:Nat):Int)∧(sliceBounds lo hi none n).2.2=1:=by
 refine⟨?_,?_,rfl⟩
 ·cases lo with
  |none=>simp[sliceBounds,HT.nr]
  |some i=>
   simp only[sliceBounds,HT.nr,Option.getD_none,show(1:Int) > 0 by decide,if_true]
   by_cases h:i < 0
   ·simp only[h,if_true] <;> omega
   ·simp only[h,if_false] <;> omega
 ·cases hi with
  |none=>simp[sliceBounds,HT.nr]
  |some i=>
   simp only[sliceBounds,HT.nr,Option.getD_none,show(1:Int) > 0 by decide,if_true]
   by_cases h:i < 0
   ·simp only[h,if_true] <;> omega
   ·simp only[h,if_false] <;> omega
theorem oB(its:List Value)(lo hi:Option Int):slicePick its.toArray lo hi none=((its.drop (HT.nr its.length 0 lo)).take (HT.nr its.length its.length hi - HT.nr its.length 0 lo)).toArray:=by
 obtain⟨h1,h2,h3⟩:=qh lo hi its.toArray.size
 unfold slicePick
 rw[h1,h2,h3]
 simp only[sliceRange_one,pick_run,kB] <;> rfl
def Fz(K:Frag):V→Option Int→Option Int→Hp→VK→Prop:=fun x lo hi H Q=>∃a xs,x=.ref a∧SqL K H a xs∧∀p,H p=none→Q (.ref p) (upd H p (.lst (wv xs lo hi)))
theorem Ao:SlR X (Fz X.K):=by
 intro pins s σ H x v vl vu lo hi sl Q I rx hs pl pu h
 obtain⟨a,xs,rfl,hx,q⟩:=h
 cases rx
 obtain⟨its,r,ht,hz⟩:=I.list hx
 have hlen:=r.length
 refine⟨"list",_,slot_list_getitem.lookup,ht.isList.typeIs,?_⟩
 refine wpAny_getItem_list_slice ht.isList hs pl pu .none (by simp) ?_ (by rw[kB] <;> omega)
 rw[oB,←hlen]
 refine⟨.ref s.heap.objs.size,_,I.laid (t':=s.toks) (o:=.lst (wv xs lo hi)) (fun b ob q=>gz _ q) (fS _) ?_,rfl,q _ (I.hok.fresh (fS _))⟩
 exact⟨jK (rW xs lo hi) hz,_,0,(r.drop (HT.nr xs.length 0 lo)).take (HT.nr xs.length xs.length hi - HT.nr xs.length 0 lo),jU _ rfl⟩
def iW:V→Bool
 |.non=>true
 |.bl _=>true
 |.int _=>true
 |.str _=>true
 |_=>false
def zT:V→V→Bool
 |.non,.non=>true
 |.bl a,.bl b=>a == b
 |.bl a,.int b=>(if a then 1 else 0) == b
 |.int a,.bl b=>a == (if b then 1 else 0)
 |.int a,.int b=>a == b
 |.str a,.str b=>a == b
 |_,_=>false
theorem CO{A:Around}{s:Shared}{y x:V}{u v:Value}(ry:RelV y u)(rx:RelV x v)(fy:iW y=true)(fx:iW x=true):SeqAt.EqAt A s u v (zT y x):=by
 cases y with
 |non=>
  cases ry
  cases x with
  |non=>cases rx;exact SeqAt.EqAt.same _
  |bl b=>cases rx;exact SeqAt.EqAt.none_bool b
  |int b=>obtain⟨t,rfl⟩:=rx;exact SeqAt.EqAt.none_int b t
  |str b=>obtain⟨t,rfl⟩:=rx;exact SeqAt.EqAt.none_str b t
  |_=>exact absurd (show false=true from fx) qa
 |bl a=>
  cases ry
  cases x with
  |non=>cases rx;exact SeqAt.EqAt.bool_none a
  |bl b=>cases rx;exact SeqAt.EqAt.bool_bool a b
  |int b=>obtain⟨t,rfl⟩:=rx;exact SeqAt.EqAt.bool_int a b t
  |str b=>obtain⟨t,rfl⟩:=rx;exact SeqAt.EqAt.bool_str a b t
  |_=>exact absurd (show false=true from fx) qa
 |int a=>
  obtain⟨t',rfl⟩:=ry
  cases x with
  |non=>cases rx;exact SeqAt.EqAt.int_none a t'
  |bl b=>cases rx;exact SeqAt.EqAt.int_bool a t' b
  |int b=>obtain⟨t,rfl⟩:=rx;exact SeqAt.EqAt.int_int a t' b t
  |str b=>obtain⟨t,rfl⟩:=rx;exact SeqAt.EqAt.int_str a t' b t
  |_=>exact absurd (show false=true from fx) qa
 |str a=>
  obtain⟨t',rfl⟩:=ry
  cases x with
  |non=>cases rx;exact SeqAt.EqAt.str_none a t'
  |bl b=>cases rx;exact SeqAt.EqAt.str_bool a t' b
  |int b=>obtain⟨t,rfl⟩:=rx;exact SeqAt.EqAt.str_int a t' b t
  |str b=>obtain⟨t,rfl⟩:=rx;exact SeqAt.EqAt.str_str a t' b t
  |_=>exact absurd (show false=true from fx) qa
 |_=>exact absurd (show false=true from fy) qa
def uq(x:V)(u:Value):Bool:=match u with
 |.none=>zT .non x
 |.bool b=>zT (.bl b) x
 |.int i _=>zT (.int i) x
 |.str z _=>zT (.str z) x
 |_=>false
theorem xY{x y:V}{u:Value}(r:RelV y u)(f:iW y=true):uq x u=zT y x:=by
 cases y with
 |non=>cases r;rfl
 |bl b=>cases r;rfl
 |int i=>obtain⟨t,rfl⟩:=r;rfl
 |str z=>obtain⟨t,rfl⟩:=r;rfl
 |_=>exact absurd (show false=true from f) qa
theorem kE{x:V}:∀{xs:List V} {us:List Value},Vals xs us→xs.all iW=true→us.any (uq x)=xs.any fun y=>zT y x
 |_,_,.nil,_=>rfl
 |y::xs,u::us,.cons r t,f=>by
  rw[List.all_cons,uf]at f
  rw[List.any_cons,List.any_cons,xY r f.1,kE t f.2]
theorem i8{A:Around}{s:Shared}{x:V}{v:Value}(rx:RelV x v)(fx:iW x=true):∀{xs:List V} {us:List Value},Vals xs us→xs.all iW=true→∀u∈us,SeqAt.EqAt A s u v (uq x u)
 |_,_,.nil,_=>fun u hu=>by cases hu
 |y::xs,u::us,.cons r t,f=>fun u' hu=>by
  rw[List.all_cons,uf]at f
  rcases Zaq.mp hu with rfl |hu
  ·rw[xY r f.1];exact CO r rx f.1 fx
  ·exact i8 rx fx t f.2 u' hu
def DO(x:V)(xs:List V):Bool:=xs.any fun y=>zT y x
def FA(K:Frag)(neg:Bool):R2:=fun x y H Q=>∃p xs,y=.ref p∧(SqL K H p xs∨SqT K H p xs)∧iW x=true∧xs.all iW=true∧Q (.bl (if neg then !DO x xs else DO x xs)) H
theorem ww:OpR X (compareOp .In) (FA X.K false):=by
 intro pins s σ H x y v u Q I rx ry h
 obtain⟨p,xs,rfl,hq,fx,fs,q⟩:=h
 cases ry
 rcases hq with hq |hq
 ·obtain⟨its,r,pl,hz⟩:=I.list hq
  refine SeqAt.in_listAt (uq x) pl.isList (fun w hw=>i8 rx fx r fs w (by simpa using hw)) ⟨.bl _,H,I,rfl,?_⟩
  rw[show its.toArray.any (uq x)=its.any (uq x) by simp,kE r fs]
  exact q
 ·obtain⟨its,r,pl,hz⟩:=I.tuple hq
  refine SeqAt.in_tupleAt (uq x) pl (fun w hw=>i8 rx fx r fs w (by simpa using hw)) ⟨.bl _,H,I,rfl,?_⟩
  rw[show its.toArray.any (uq x)=its.any (uq x) by simp,kE r fs]
  exact q
theorem qi:OpR X (compareOp .NotIn) (FA X.K true):=by
 intro pins s σ H x y v u Q I rx ry h
 obtain⟨p,xs,rfl,hq,fx,fs,q⟩:=h
 cases ry
 rcases hq with hq |hq
 ·obtain⟨its,r,pl,hz⟩:=I.list hq
  refine SeqAt.notIn_listAt (uq x) pl.isList (fun w hw=>i8 rx fx r fs w (by simpa using hw)) ⟨.bl _,H,I,rfl,?_⟩
  rw[show its.toArray.any (uq x)=its.any (uq x) by simp,kE r fs]
  exact q
 ·obtain⟨its,r,pl,hz⟩:=I.tuple hq
  refine SeqAt.notIn_tupleAt (uq x) pl (fun w hw=>i8 rx fx r fs w (by simpa using hw)) ⟨.bl _,H,I,rfl,?_⟩
  rw[show its.toArray.any (uq x)=its.any (uq x) by simp,kE r fs]
  exact q
theorem qj:OpR X (compareOp .NotIn) (fun x y H Q=>∃i j,x=.str i∧y=.str j∧Q (.bl (!(!(Builtin.Str.occurrences j i 0 j.length 1).isEmpty))) H):=by
 intro pins s σ H x y v u Q I rx ry h
 obtain⟨i,j,rfl,rfl,q⟩:=h
 obtain⟨t,rfl⟩:=rx
 obtain⟨t',rfl⟩:=ry
 exact notIn_str ⟨.bl _,H,I,rfl,q⟩
theorem qk:CallR X (.builtin "len") (fun xs H Q=>∃p ys,xs=[.ref p]∧(SqL X.K H p ys∨SqT X.K H p ys)∧Q (.int ys.length) H):=by
 intro pins s σ H xs us Q I r h
 obtain⟨p,ys,rfl,hq,q⟩:=h
 obtain⟨u,rfl,rx⟩:=rT r
 cases rx
 have hn:=lG
 rcases hq with hq |hq
 ·obtain⟨its,r',pl,hz⟩:=I.list hq
  have hlen:=r'.length
  exact Calls.call_len_list pl.isList (by simp only[kB] <;> omega) ⟨.int ys.length,H,I.tok _,⟨s.toks+1,by rw[kB,hlen]⟩,q⟩
 ·obtain⟨its,r',pl,hz⟩:=I.tuple hq
  have hlen:=r'.length
  exact len_tuple pl (by simp only[kB] <;> omega) ⟨.int ys.length,H,I.tok _,⟨s.toks+1,by rw[kB,hlen]⟩,q⟩
theorem ql:CallR X (.builtin "len") (fun xs H Q=>∃z,xs=[.str z]∧z.length≤sizeLine∧Q (.int z.length) H):=by
 intro pins s σ H xs us Q I r h
 obtain⟨z,rfl,hz,q⟩:=h
 obtain⟨u,rfl,t,rfl⟩:=rT r
 have hn:=lG
 exact len_str (by omega) ⟨.int z.length,H,I.tok _,⟨_,rfl⟩,q⟩
theorem CallR.or{f:Value}{r r':List V→Hp→VK→Prop}(h:CallR X f r)(h':CallR X f r'):CallR X f (fun xs H Q=>r xs H Q∨r' xs H Q):=by
 intro pins s σ H xs us Q I rs q
 rcases q with q |q
 ·exact h pins s σ H xs us Q I rs q
 ·exact h' pins s σ H xs us Q I rs q
theorem qm:CallR X (.type "list") (fun xs H Q=>∃p ys,xs=[.ref p]∧(SqL X.K H p ys∨SqT X.K H p ys)∧∀l,H l=none→Q (.ref l) (upd H l (.lst ys))):=by
 intro pins s σ H xs us Q I r h
 obtain⟨p,ys,rfl,hq,q⟩:=h
 obtain⟨u,rfl,rx⟩:=rT r
 cases rx
 have fin:∀(its:List Value),Vals ys its→ys.length≤sizeLine→∀(h':Heap) (c':Nat),(∀b o',s.heap.get? b=some o'→h'.get? b=some o')→
   h'.get? s.heap.objs.size=some {cls:=.type "list",dict:=none,data:=.seq its.toArray c',slots:=#[]}→EP X pins σ Q (.ref s.heap.objs.size) {s with heap:=h'}:=fun its r' hz h' c' kp e=>
  ⟨.ref s.heap.objs.size,_,I.laid (t':=s.toks) kp (fS _) (show ObjOk X.prog X.w _ h' _ (.lst ys)from⟨hz,its,c',r',e⟩),rfl,q _ (I.hok.fresh (fS _))⟩
 rcases hq with hq |hq
 ·obtain⟨its,r',pl,hz⟩:=I.list hq
  have hlen:=r'.length
  obtain⟨o,ho,hc,n,hd⟩:=pl.isList
  exact call_list_seq p (.inl rfl) ho hc hd (fun h' c' kp e=>fin its r' hz h' c' kp e) (by simp only[kB] <;> omega)
 ·obtain⟨its,r',pl,hz⟩:=I.tuple hq
  have hlen:=r'.length
  obtain⟨o,ho,hc,n,hd⟩:=pl
  exact call_list_seq p (.inr rfl) ho hc hd (fun h' c' kp e=>fin its r' hz h' c' kp e) (by simp only[kB] <;> omega)
def FB(K:Frag)(T:String)(x:V)(H:Hp):Prop:=match x with
 |.str _=>T="str"
 |.int _=>T="int"
 |.ref p=>(T="list"∧∃xs,SqL K H p xs)∨(T="tuple"∧∃o,K.lookup p=some o∧o.cls=.type "tuple"∧o.dict=none)∨
   (T="dict"∧((∃kvs,H p=some (.dK kvs))∨∃kvs,H p=some (.dT kvs)))∨(T="set"∧∃S n,H p=some (.set S n))
 |_=>False
theorem xZ{pins:List (Addr×Obj)}{σ:St}{H:Hp}{s:Shared}{T:String}{x:V}{v:Value}(I:Inv X pins σ H s)(r:RelV x v)(ty:FB X.K T x H):
  s.TypeIs v T∧∀a,v=.ref a→∃ob,s.heap.get? a=some ob∧ob.dict=none:=by
 cases x with
 |str z=>
  obtain⟨t,rfl⟩:=r
  cases(show T="str" from ty)
  exact⟨typeIs_str s z t,fun _ e=>nomatch e⟩
 |int i=>
  obtain⟨t,rfl⟩:=r
  cases(show T="int" from ty)
  exact⟨typeIs_int s i t,fun _ e=>nomatch e⟩
 |ref p=>
  cases r
  rcases ty with⟨rfl,xs,hq⟩ |⟨rfl,o,hk,hc,hd⟩ |⟨rfl,hk⟩ |⟨rfl,S,n,hk⟩
  ·obtain⟨its,_,pl,_⟩:=I.list hq
   refine⟨pl.isList.typeIs,fun a e=>?_⟩
   cases e
   obtain⟨o,n,e,c,hd,_⟩:=pl
   exact⟨o,e,hd⟩
  ·refine⟨⟨o,I.kIn p o hk,hc⟩,fun a e=>?_⟩
   cases e
   exact⟨o,I.kIn _ o hk,hd⟩
  ·have z:∃o,s.heap.get? p=some o∧o.ExactDict:=by
    rcases hk with⟨kvs,hk⟩ |⟨kvs,hk⟩
    ·obtain⟨_,_,_,_,o,_,_,e,ex,_⟩:=I.hok p _ hk
     exact⟨o,e,ex⟩
    ·obtain⟨_,_,_,_,o,_,_,e,ex,_⟩:=I.hok p _ hk
     exact⟨o,e,ex⟩
   obtain⟨o,e,ex⟩:=z
   refine⟨⟨o,e,ex.1⟩,fun a e2=>?_⟩
   cases e2
   exact⟨o,e,ex.2.1⟩
  ·obtain⟨o,_,_,_,e,ex,_⟩:=I.hok p _ hk
   refine⟨⟨o,e,ex.1⟩,fun a e2=>?_⟩
   cases e2
   exact⟨o,e,ex.2.1⟩
 |_=>exact False.elim ty
def FC(K:Frag)(T:String)(r:V→List V→Hp→VK→Prop)(to:TE):TE:=fun σ H Q=>to σ H fun x H1=>FB K T x H1∧r x [] H1 Q
def Gh(K:Frag)(T:String)(r:V→List V→Hp→VK→Prop)(to:TE)(t:TA):TE:=fun σ H Q=>to σ H fun x H1=>FB K T x H1∧t σ H1 fun xs H2=>r x xs H2 Q
variable {o e:Expr} {es:List Expr} {to:TE} {t:TA} {name:Str} {apos cpos:Pos} {T id:String} {r:V→List V→Hp→VK→Prop}
theorem x8 (pa:PlainAttrs T) (slot:Slot T name id) (hty:typeOf (.builtin id)=pure (.type "method_descriptor")) (hm:MtR X id r) (ho:PE X o to)
  (hbase:attributeBase o name X.env (eval o X.env)=eval o X.env:=by rfl) (hline:(apos.endLine == cpos.line)=true:=by rfl):PE X (.Call (.Attribute o name apos) [] [] cpos) (FC X.K T r to):=by
 intro pins s σ H Q I h
 refine wpAny_Call_method0_late hbase hline (dJ (ho pins s σ H _ I h) fun v s1 ⟨x,H1,I1,r1,ty,q1⟩=>?_)
 obtain⟨h1,h2⟩:=xZ I1 r1 ty
 exact⟨T,id,pa,slot,hty,h1,h2,Calls.callWith_builtin rfl (PySem.evalArgs_none (hm pins s1 σ H1 x [] v [] Q I1 r1 .nil q1))⟩
theorem BR (pa:PlainAttrs T) (slot:Slot T name id) (hty:typeOf (.builtin id)=pure (.type "method_descriptor")) (hm:MtR X id r) (ho:PE X o to) (ha:PA X (e::es) t)
  (hbase:attributeBase o name X.env (eval o X.env)=eval o X.env:=by rfl)
  (hfew:((backTo cpos (starEach (e::es) X.env)).all (fun x=> !x.1)&&(backToKw cpos (keywordEach [] X.env)).all (fun x=>x.1.isSome)
   &&decide ((e::es).length+([]:List Keyword).length+(if ([]:List Keyword).isEmpty then 0 else 1) < 30))=true:=by rfl)
  (hline:(apos.endLine == cpos.line)=true:=by rfl) (hs:starEach (e::es) X.env=(false,eval e X.env)::starEach es X.env:=by rfl) (hplain:(backTo cpos (starEach es X.env)).any (·.1)=false:=by rfl):
  PE X (.Call (.Attribute o name apos) (e::es) [] cpos) (Gh X.K T r to t):=by
 intro pins s σ H Q I h
 refine wpAny_Call_method_late hbase hfew hline rfl (dJ (ho pins s σ H _ I h) fun v s1 ⟨x,H1,I1,r1,ty,q1⟩=>?_)
 obtain⟨h1,h2⟩:=xZ I1 r1 ty
 refine⟨T,id,pa,slot,hty,h1,h2,?_⟩
 have hA:=ha cpos pins s1 σ H1 _ I1 q1
 rw[hs]at hA ⊢
 refine Calls.callWith_builtin (by show(false||(backTo cpos (starEach es X.env)).any (·.1))=false;rw[hplain] <;> rfl) (Calls.evalArgs_plain ?_)
 exact dJ hA fun us s2 ⟨vs,H2,I2,r2,q2⟩=>hm pins s2 σ H2 x vs v us Q I2 r1 r2 q2
end
end L2
namespace L2
open PySem PySem.Spec PyProof.Rows
def FD(X:Cx)(id:String)(r:V→List V→Hp→VK→Prop):Prop:=
 ∀(pins:List (Addr×Obj)) (s:Shared) (σ:St) (H:Hp) (x:V) (xs:List V) (v:Value) (us:List Value) (Q:VK),Inv X pins σ H s→RelV x v→Vals xs us→r x xs H Q→
  wpAny (model X.prog X.w) X.A (call (.builtin id) (v::us)) (EP X pins σ Q) X.xe s
theorem Vals.one{x:V}{us:List Value}(h:Vals [x] us):∃u,us=[u]∧RelV x u:=by
 cases h with
 |cons r t=>cases t;exact⟨_,rfl,r⟩
theorem Vals.two{x y:V}{us:List Value}(h:Vals [x,y] us):∃u v,us=[u,v]∧RelV x u∧RelV y v:=by
 cases h with
 |cons r t=>
  obtain⟨v,rfl,q⟩:=Vals.one t
  exact⟨_,_,rfl,r,q⟩
theorem Vals.zero:∀{us:List Value},Vals [] us→us=[]
 |_,.nil=>rfl
theorem Vals.dropLast{xs:List V}{us:List Value}(h:Vals xs us):Vals xs.dropLast us.dropLast:=by
 induction h with
 |nil=>exact .nil
 |cons r t ih=>
  cases t with
  |nil=>exact .nil
  |cons q t'=>exact .cons r ih
theorem Vals.reverse{xs:List V}{us:List Value}(h:Vals xs us):Vals xs.reverse us.reverse:=by
 induction h with
 |nil=>exact .nil
 |cons r t ih=>rw[ud,ud];exact Vals.append ih (.cons r .nil)
theorem Vals.rep{xs:List V}{us:List Value}(h:Vals xs us):∀k:Nat,Vals (List.replicate k xs).flatten (List.replicate k us).flatten
 | 0=>.nil
 |k+1=>by
  rw[List.replicate_succ,List.replicate_succ,List.flatten_cons,List.flatten_cons]
  exact Vals.append h (Vals.rep h k)
theorem ur{α:Type}(l:List α):l.eraseIdx (l.length - 1)=l.dropLast:=by
 induction l with
 |nil=>rfl
 |cons a r ih=>
  cases r with
  |nil=>rfl
  |cons b r=>
   have e:(a::b::r).length - 1=((b::r).length - 1)+1:=by
    have h1:(a::b::r).length=r.length+2:=rfl
    have h2:(b::r).length=r.length+1:=rfl
    omega
   rw[e,List.eraseIdx_cons_succ,ih]
   all_goals rfl
section
variable {X:Cx} {pins:List (Addr×Obj)} {σ:St} {H:Hp} {s:Shared} {l b:Addr} {xs ys zs:List V}
theorem Inv.lset{its its':List Value}{n:Nat}{f:Array Value→Array Value}{t':Nat}(I:Inv X pins σ H s)(hH:H l=some (.lst xs))
  (e:s.heap.get? l=some {cls:=.type "list",data:=.seq its.toArray n}) (hf:f its.toArray=its'.toArray) (hv:Vals ys its') (hz:ys.length≤sizeLine):
  Inv X pins σ (upd H l (.lst ys)) {s with heap:=s.heap.update l (Obj.mapSeq f),toks:=t'}:=by
 have q:=PySem.IsL.update e f
 rw[hf]at q
 refine I.write (x:=l) (e:=l) (by rw[hH];exact trivial) (.inl rfl) (fun b' u hb hu=>(Heap.get?_update_other s.heap (Obj.mapSeq f) (Ne.symm hb)).trans hu) ⟨_,q⟩ ?_
 exact⟨hz,its',_,hv,q⟩
theorem Inv.lnew{its:List Value}{t':Nat}(I:Inv X pins σ H s)(hv:Vals ys its)(hz:ys.length≤sizeLine):
  Inv X pins σ (upd H s.heap.objs.size (.lst ys)) {s with heap:=s.heap.push {cls:=.type "list",data:=.seq its.toArray},toks:=t'}:=
 I.laid (fun _ _ q=>gz _ q) (fS _) ⟨hz,its,0,hv,jU _ rfl⟩
theorem Inv.fresh(I:Inv X pins σ H s):H s.heap.objs.size=none:=I.hok.fresh (fS _)
theorem Inv.lstM(I:Inv X pins σ H s)(hH:H l=some (.lst xs)):xs.length≤sizeLine∧∃(its:List Value) (n:Nat),Vals xs its∧xs.length=its.length∧s.heap.get? l=some {cls:=.type "list",data:=.seq its.toArray n}:=by
 obtain⟨z,its,n,r,e⟩:=I.hok l _ hH
 exact⟨z,its,n,r,r.length,e⟩
end
section
variable {X:Cx}
def Ap:V→List V→Hp→VK→Prop:=fun x vs H Q=>∃l xs y,x=.ref l∧vs=[y]∧H l=some (.lst xs)∧xs.length < sizeLine∧Q .non (upd H l (.lst (xs++[y])))
theorem lJ:FD X "list.append" Ap:=by
 intro pins s σ H x vs v us Q I rx rv h
 obtain⟨l,xs,y,rfl,rfl,hH,hz,q⟩:=h
 cases rx
 obtain⟨u,rfl,ru⟩:=rv.one
 obtain⟨z,its,n,r,hl,e⟩:=I.lstM hH
 refine call_meets F.slot_list_append ⟨_,e,rfl⟩ F.entry_list_append (F.args_list_append_2 _ _) (PySem.list_append l its.toArray n u (by rw[kB];omega)) ⟨e,?_⟩
 refine⟨.non,_,I.lset (its':=its++[u]) hH e (by simp) (r.append (.cons ru .nil)) ?_,rfl,q⟩
 rw[vn,List.length_singleton]
 omega
def FE:V→List V→Hp→VK→Prop:=fun x vs H Q=>∃l xs y,x=.ref l∧vs=[]∧H l=some (.lst xs)∧xs[xs.length - 1]? =some y∧Q y (upd H l (.lst xs.dropLast))
theorem CP:FD X "list.pop" FE:=by
 intro pins s σ H x vs v us Q I rx rv h
 obtain⟨l,xs,y,rfl,rfl,hH,hy,q⟩:=h
 cases rx
 have hus:=rv.zero
 subst hus
 obtain⟨z,its,n,r,hl,e⟩:=I.lstM hH
 obtain⟨u,hu,ru⟩:=r.get hy
 have hy':its.toArray[its.toArray.size - 1]? =some u:=by
  show its.toArray[its.length - 1]? =some u
  rw[←Array.getElem?_toList,←hl]
  exact hu
 refine call_meets F.slot_list_pop ⟨_,e,rfl⟩ F.entry_list_pop (F.args_list_pop_1 _) (MeetsSeq.list_pop_last l its.toArray n u hy' (by rw[kB];omega)) ⟨e,?_⟩
 refine⟨y,_,I.lset (its':=its.dropLast) hH e ?_ r.dropLast ?_,ru,q⟩
 ·show its.toArray.eraseIdxIfInBounds (its.toArray.size - 1)=its.dropLast.toArray
  rw[kB,List.eraseIdxIfInBounds_toArray,ur]
 ·rw[List.length_dropLast]
  omega
def x9:V→List V→Hp→VK→Prop:=fun x vs H Q=>∃l xs,x=.ref l∧vs=[]∧H l=some (.lst xs)∧Q .non (upd H l (.lst xs.reverse))
theorem ut:FD X "list.reverse" x9:=by
 intro pins s σ H x vs v us Q I rx rv h
 obtain⟨l,xs,rfl,rfl,hH,q⟩:=h
 cases rx
 have hus:=rv.zero
 subst hus
 obtain⟨z,its,n,r,hl,e⟩:=I.lstM hH
 refine call_meets F.slot_list_reverse ⟨_,e,rfl⟩ F.entry_list_reverse (F.args_list_reverse_1 _) (AutoSeq1.list_reverse_list_0 l its.toArray n (by rw[kB];omega)) ⟨e,?_⟩
 refine⟨.non,_,I.lset (its':=its.reverse) hH e (by simp) r.reverse ?_,rfl,q⟩
 rw[List.length_reverse]
 omega
theorem Aq{α:Type}(xs:List α)(k:Nat):(List.replicate k xs).flatten.length=k*xs.length:=by
 induction k with
 |zero=>simp
 |succ k ih=>rw[List.replicate_succ,List.flatten_cons,vn,ih,Nat.succ_mul,Nat.add_comm]
end
end L2
namespace Att
open PySem PySem.W PySem.Calls PyProof.Rows
theorem mO{P:Params}{h:Heap}:∀(ns:List Int) (vs:List Value),WellAll P h vs (ns.map WData.int)→IntsAre vs ns:=by
 intro ns
 induction ns with
 |nil=>
  intro vs w
  rw[fm]at w
  cases w
  exact .nil
 |cons n ns ih=>
  intro vs w
  rw[ce]at w
  cases w with
  |cons a b=>
   cases a
   exact .cons _ _ (ih _ b)
theorem wx{l:OpenLaw}{n:Nat}(hn:l.most=some n){P:Params}{h:Heap}{args:List WData}{vals:List Value}
  (hpre:l.row.toRowW.claim.pre args=true) (hwl:WellAll P h vals args):
  ∃a vs ns,vals=[Value.ref a]∧args=[WData.list (ns.map WData.int)]∧h.get? a=some {cls:=.type "list",data:=.seq vs.toArray}∧IntsAre vs ns∧ns.length≤n:=by
 have hsh:WShape.hasAll [] args [.list .int]=true:=(pre_splitW hpre).1
 have hc:l.pre.holds [] {args:=args}=true:=(pre_splitW hpre).2
 obtain⟨d,r,rfl,h1,h2⟩:=hasAllW_cons hsh
 obtain rfl:=hasAllW_nil h2
 obtain⟨xs,rfl,h3⟩:=hasW_list h1
 obtain⟨ns,rfl⟩:=items_int h3
 have hlen:ns.length≤n:=by
  unfold OpenLaw.pre at hc
  have h4:(WTm.not (.lt (.lit (.int (n:Int))) (.len (.arg 0)))).holds [] {args:=[.list (ns.map .int)]}=true:=by
   have h4:=(holds_andW hc).1
   rw[hn]at h4
   exact h4
  have h5:=condW_of h4 (w_not (w_lt w_lit (w_len_list (w_arg rfl))))
  rw[eQ]at h5
  refine Nat.le_of_not_lt fun q=>?_
  have q':(n:Int) < ((ns.length:Nat):Int):=by omega
  first
   |(rw[decide_eq_true q']at h5;exact absurd h5 (by decide))
   |(simp at h5;omega)
 cases hwl with
 |cons w1 w2=>
  cases w2
  cases w1 with
  |list ho hall=>exact⟨_,_,ns,rfl,rfl,ho,mO ns _ hall,hlen⟩
theorem wz(l:OpenLaw)(args:List WData):l.row.toRowW.claim.post args (.bool true) args=true:=
 postW_of (r:=l.row.toRowW) (X:=(true == true))
  (show WShape.has [] (.bool true) .bool=true by first |rfl |decide |simp[WShape.has,WShape.arms,WShape.armsAll])
  (show(WTm.eq .res (.lit (.bool true))).value [] {args:=args,res:=some (.bool true),after:=args}=some (.bool (true == true))from w_eq_bool (w_res rfl) w_lit) rfl
theorem rX{l:OpenLaw}{n:Nat}{q:Program}{loose:List Str}{XP:(Str→Option Value)→Heap→Prop}{YP:World→Heap→Prop}{d:DefRec}
  (hn:l.most=some n) (hdf:d.params.defaults=[])
  (call:∀(w:World) (s₀ s₁:Shared) (mg mb:Str→Option Value) (fa:Addr) (o:Obj) (pm cd doc:Value) (a:Addr) (vs:List Value) (ns:List Int),
   Ground q loose [] XP w s₀ mg mb s₁.heap→YP w s₁.heap→
   s₁.heap.get? fa=some o→o.data=.func (docDef d.name d.params d.body d.scope pm cd doc)→s₁.heap.CodeRec cd d.name→mg d.name=some (.ref fa)→
   s₁.heap.get? a=some {cls:=.type "list",data:=.seq vs.toArray}→IntsAre vs ns→ns.length≤n→s₁.gens=#[]→
   codeAny (model l.prog w) callerA (.call (.ref fa) ⟨[.ref a],[]⟩) (fun r s'=>r=.ok (.ret (.bool true))∧OldK s₁.heap s'.heap∧s'.os=s₁.os∧AllBare s'.gens) s₁):
  WalkO q loose XP YP l.row.toRowW d [] (fun f vs=>PySem.call f vs):=by
 intro w s₀ s₁ mg mb G Y fa o pm cd doc dV kV ho hd hcd hD hmg hg args vals as hpre hlay hrd hwl hlo
 obtain rfl:dV=.none:=Dflts.none hD hdf
 obtain rfl:kV=.none:=Dflts.noKw hD
 obtain⟨a,vs,ns,rfl,rfl,hobj,hints,hlen⟩:=wx hn hpre hwl
 refine enter_call (codeAny_mono (call w s₀ s₁ mg mb fa o pm cd doc a vs ns G Y ho (fd_plain hd) hcd hmg hobj hints hlen hg) fun r s' hq=>?_)
 obtain⟨rfl,h2,h3,h4⟩:=hq
 exact⟨.inl ⟨.bool true,.bool true,[],rfl,fun _=>rfl,.bool true,wz l _,fun _=>⟨List.Pairwise.nil,fun _ hm=>(nomatch hm)⟩⟩,h2,h3,h4⟩
end Att
namespace L2
open PySem PySem.Spec PyProof.Rows
theorem jy:∀{vs:List Value} {ns:List Int},IntsAre vs ns→Vals (ns.map V.int) vs
 |_,_,.nil=>.nil
 |_,_,.cons n t h=>.cons ⟨t,rfl⟩ (jy h)
theorem ObjOk.tbl0{P:Program}{w:World}{H:Hp}{h:Heap}{b:Addr}{q:Str}(e:h.get? b=some (tabObj #[])):ObjOk P w H h b (.tbl q):=⟨#[],e,trivial,fun pos cv z=>by cases z⟩
end L2
namespace L2
open PySem PySem.Spec PyProof.Rows
def eN(s:Stmt):Arguments:=match s with
 | .FunctionDef _ a _ _ _ _ _ _ _ _=>a
 |_=>{posonlyargs:=[],args:=[],vararg:=none,kwonlyargs:=[],kw_defaults:=[],kwarg:=none,defaults:=[]}
def cQ(s:Stmt):List Stmt:=match s with
 | .FunctionDef _ _ b _ _ _ _ _ _ _=>b
 |_=>[]
def ao(s:Stmt):Scope:=match s with
 | .FunctionDef _ _ _ _ _ _ sc _ _ _=>sc
 |_=>{kind:=.function,names:=[],isGenerator:=false,isCoroutine:=false}
abbrev wA:xV:=fun _ _ _ _ _ _=>False
abbrev E0:XK:=fun _ _ _=>False
theorem BS{X:Cx}:uo wA X E0:=fun _ _ _ _ _ _ _ h=>h.elim
structure Fun (K:Frag) (x qual:Str) (st:Stmt) (f:Addr) (fd:FuncData):Prop where
 ex:∃(oc:Value) (od:Option Addr) (kV doc pm:Value) (an:Option Addr) (cdv ct:Value) (osl:Array (Option Value)),
  fd=fnOf x qual (eN st) (cQ st) (ao st) .none kV doc pm an cdv ct∧K.lookup f=some ⟨oc,od,.func fd,osl⟩∧codeIn K cdv qual=true
 kp:keepIn K (.ref f)=true
section
variable {P:Program} {w:World} {K:Frag} {mg:Str→Option Value} {base:Heap}
theorem Fun.ok{x qual:Str}{st:Stmt}{f:Addr}{fd:FuncData}{N ps:List Str}{k:Nat}{sp:Sp}(F:Fun K x qual st f fd)(S:FnScope N ps (ao st))(len:∀vs H Q E,sp vs H Q E→vs.length=ps.length)
  (hbody:∀(cdv:Value) (A:Around) (outer:List Env) (s:Shared) (H:Hp) (vs:List V) (Q:VK) (E:XK),Room k (A.deeper (envOfC qual (ao st) s.heap.objs.size f cdv))→sp vs H Q E→
   ∃t,PSs (oA wA P w K mg base N qual (ao st) f cdv A outer s H E).nox (cQ st) t∧t {nx:=fun _ H'=>Q .non H',rt:=Q} (iv N vs) H):FnOk P w K mg base wA (k+1) f fd ps sp:=by
 obtain⟨oc,od,kV,doc,pm,an,cdv,ct,osl,rfl,lk,hcd⟩:=F.ex
 refine BQ lk hcd S len fun A outer s H vs Q E hr hsp=>?_
 obtain⟨t,h,q⟩:=hbody cdv A outer s H vs Q E hr hsp
 exact⟨t,h.nox,q⟩
theorem Fun.binds{x qual:Str}{st:Stmt}{f:Addr}{fd:FuncData}{ps:List Str}(F:Fun K x qual st f fd)
  (h:∀(kV doc pm:Value) (an:Option Addr) (cdv ct:Value) (us:List Value),us.length=ps.length→bindArgs (fnOf x qual (eN st) (cQ st) (ao st) .none kV doc pm an cdv ct) ⟨us,[]⟩=pure (ps.zip us)):Binds K fd ps []:=by
 obtain⟨oc,od,kV,doc,pm,an,cdv,ct,osl,rfl,lk,hcd⟩:=F.ex
 exact .all (h kV doc pm an cdv ct)
theorem uu{x qual:Str}{st:Stmt}{f:Addr}{oc:Value}{od an:Option Addr}{osl:Array (Option Value)}{kV doc pm cdv ct:Value}(l:K.lookup f=some ⟨oc,od,.func (fnOf x qual (eN st) (cQ st) (ao st) .none kV doc pm an cdv ct),osl⟩)
  (c:codeIn K cdv qual=true) (k:keepIn K (.ref f)=true):Fun K x qual st f (fnOf x qual (eN st) (cQ st) (ao st) .none kV doc pm an cdv ct):=⟨⟨oc,od,kV,doc,pm,an,cdv,ct,osl,rfl,l,c⟩,k⟩
end
def Same(H H':Hp):Prop:=∀b o,H b=some o→H' b=some o
theorem Same.refl(H:Hp):Same H H:=fun _ _ h=>h
theorem Same.trans{H H1 H2:Hp}(a:Same H H1)(b:Same H1 H2):Same H H2:=fun c o h=>b c o (a c o h)
theorem Same.free{H H':Hp}(e:Same H H'){l:Addr}(h:H' l=Option.none):H l=Option.none:=by
 cases q:H l with
 |none=>rfl
 |some o=>
  rw[e l o q]at h
  cases h
theorem Same.seq{K:Frag}{H H':Hp}{a:Addr}{xs:List V}(e:Same H H')(h:SqL K H a xs):SqL K H' a xs:=by
 rcases h with(h |⟨o,h⟩) |h
 ·exact .inl (.inl (e _ _ h))
 ·exact .inl (.inr ⟨o,e _ _ h⟩)
 ·exact .inr h
end L2
namespace NH
section
variable {α:Type} [DecidableEq α]
def stp(r:List (α×Int))(p:α×Int):List (α×Int):=
 match r with
 |[]=>if p.2=0 then []else [p]
 |q::r'=>if q.1=p.1 then (if q.2+p.2=0 then r' else (p.1,q.2+p.2)::r')else (if p.2=0 then q::r' else p::q::r')
def stk(c:List (α×Int)):List (α×Int):=c.foldl stp []
def short(c:List (α×Int)):List (α×Int):=(stk c).reverse
def Gi(c:List (α×Int)):List (α×Int):=c.foldr (fun p r=>stp r p) []
def Red:List (α×Int)→Prop
 |[]=>True
 |[p]=>p.2≠0
 |p::q::r=>p.2≠0∧p.1≠q.1∧Red (q::r)
theorem Red.tail{p:α×Int}{r:List (α×Int)}(h:Red (p::r)):Red r:=by
 cases r with
 |nil=>trivial
 |cons q r=>exact h.2.2
theorem Red.head{p:α×Int}{r:List (α×Int)}(h:Red (p::r)):p.2≠0:=by
 cases r with
 |nil=>exact h
 |cons q r=>exact h.1
theorem Red.cons{p:α×Int}{r:List (α×Int)}(h0:p.2≠0)(h1:∀q∈r.head?,p.1≠q.1)(h:Red r):Red (p::r):=by
 cases r with
 |nil=>exact h0
 |cons q r=>exact⟨h0,h1 q rfl,h⟩
theorem Red.next{p:α×Int}{r:List (α×Int)}(h:Red (p::r)):∀q∈r.head?,p.1≠q.1:=by
 cases r with
 |nil=>intro q hq;cases hq
 |cons q r=>intro q' hq;cases hq;exact h.2.1
theorem Ar{r:List (α×Int)}(h:Red r)(p:α×Int):Red (stp r p):=by
 cases r with
 |nil=>
  unfold stp
  by_cases h0:p.2=0
  ·simp[h0,Red]
  ·simp[h0,Red]
 |cons q r=>
  show Red (if q.1=p.1 then (if q.2+p.2=0 then r else (p.1,q.2+p.2)::r)else (if p.2=0 then q::r else p::q::r))
  by_cases e:q.1=p.1
  ·rw[if_pos e]
   by_cases z:q.2+p.2=0
   ·rw[if_pos z];exact h.tail
   ·rw[if_neg z]
    refine Red.cons z (fun s hs=>?_) h.tail
    rw[←e];exact h.next s hs
  ·rw[if_neg e]
   by_cases z:p.2=0
   ·rw[if_pos z];exact h
   ·rw[if_neg z];exact⟨z,fun t=>e t.symm,h⟩
theorem oV:∀(c:List (α×Int)) {r:List (α×Int)},Red r→Red (c.foldl stp r)
 |[],_,h=>h
 |p::c,_,h=>oV c (Ar h p)
theorem As(c:List (α×Int)):Red (stk c):=oV c trivial
theorem rY{r:List (α×Int)}(h:Red r)(n:α):stp r (n,0)=r:=by
 cases r with
 |nil=>simp[stp]
 |cons q r=>
  have:=h.head
  unfold stp
  by_cases e:q.1=n
  ·obtain⟨a,b⟩:=q
   simp at e this
   subst e
   simp[this]
  ·simp[e]
theorem At{r:List (α×Int)}(h:Red r)(n:α)(a b:Int):stp (stp r (n,a)) (n,b)=stp r (n,a+b):=by
 cases r with
 |nil=>
  by_cases ha:a=0
  ·subst ha;simp[stp]
  ·simp[stp,ha]
 |cons q r=>
  obtain⟨m,u⟩:=q
  have hu:u≠0:=h.head
  by_cases e:m=n
  ·subst e
   by_cases z:u+a=0
   ·have e1:stp ((m,u)::r) (m,a)=r:=by simp[stp,z]
    rw[e1]
    have ez:u+(a+b)=b:=by omega
    have hn:=h.next
    cases r with
    |nil=>
     by_cases hb:b=0
     ·subst hb;simp[stp];omega
     ·simp[stp,ez,hb]
    |cons s r=>
     have e2:¬s.1=m:=fun t=>hn s rfl t.symm
     by_cases hb:b=0
     ·subst hb;simp[stp,e2];omega
     ·simp[stp,ez,hb,e2]
   ·have e1:stp ((m,u)::r) (m,a)=(m,u+a)::r:=by simp[stp,z]
    rw[e1]
    simp only[stp,if_true]
    rw[Int.add_assoc]
  ·by_cases ha:a=0
   ·subst ha;simp[stp,e]
   ·simp[stp,e,ha]
def contr(c:List (α×Int)):List (α×Int):=c.reverse.map fun p=>(p.1,-p.2)
theorem fz(c:List (α×Int)):(contr c).length=c.length:=by simp[contr]
def sn(w:List (α×Int))(p:α×Int):List (α×Int):=(stp w.reverse p).reverse
def xH(p x:α×Int):List (α×Int):=if x.1=p.1 then (if x.2+p.2=0 then []else [(p.1,x.2+p.2)])else (if p.2=0 then [x]else [p,x])
theorem iw(p x:α×Int)(r:List (α×Int)):stp (x::r) p=xH p x++r:=by
 show(if x.1=p.1 then (if x.2+p.2=0 then r else (p.1,x.2+p.2)::r)else (if p.2=0 then x::r else p::x::r))=xH p x++r
 unfold xH
 by_cases e:x.1=p.1
 ·rw[if_pos e,if_pos e];split <;> rfl
 ·rw[if_neg e,if_neg e];split <;> rfl
def FG(x p:α×Int):List (α×Int):=(xH p x).reverse
theorem vx(p x:α×Int)(r:List (α×Int)):sn (r++[x]) p=r++FG x p:=by
 unfold sn FG
 rw[List.reverse_append,List.reverse_singleton,List.singleton_append,iw,List.reverse_append,List.reverse_reverse]
theorem En(p q:α×Int)(x:α×Int)(hx:x.2≠0):stp (sn [x] q) p=sn (stp [x] p) q:=by
 obtain⟨n,a⟩:=p
 obtain⟨k,b⟩:=q
 obtain⟨m,u⟩:=x
 simp at hx
 by_cases e1:m=n
 ·subst e1
  by_cases e2:m=k
  ·subst e2
   by_cases z1:u+a=0 <;> by_cases z2:u+b=0
   ·simp[stp,sn,z1,z2]
    have:a=b:=by omega
    have ha:a≠0:=by omega
    have hb:b≠0:=by omega
    simp[ha,hb,this]
   ·have hb:u+b+a=b:=by omega
    by_cases b0:b=0
    ·subst b0;simp[stp,sn,z1,hx]
    ·simp[stp,sn,z1,z2,hb,b0]
   ·have hb:u+a+b=a:=by omega
    by_cases a0:a=0
    ·subst a0;simp[stp,sn,z2,hx]
    ·simp[stp,sn,z1,z2,hb,a0]
   ·have hb:u+b+a=u+a+b:=by omega
    by_cases z3:u+a+b=0
    ·simp[stp,sn,z1,z2,hb,z3]
    ·simp[stp,sn,z1,z2,hb,z3]
  ·by_cases z1:u+a=0 <;> by_cases z2:b=0 <;> simp[stp,sn,e2,z1,z2]
 ·by_cases e2:m=k
  ·subst e2
   by_cases z1:u+b=0 <;> by_cases z2:a=0 <;> simp[stp,sn,e1,z1,z2]
  ·by_cases z1:a=0 <;> by_cases z2:b=0 <;> simp[stp,sn,e1,e2,z1,z2]
theorem Eo(p q:α×Int):stp (sn [] q) p=sn (stp [] p) q:=by
 obtain⟨n,a⟩:=p
 obtain⟨k,b⟩:=q
 by_cases z1:a=0 <;> by_cases z2:b=0
 ·simp[stp,sn,z1,z2]
 ·by_cases e:k=n <;> simp[stp,sn,z1,z2,e]
 ·by_cases e:n=k <;> simp[stp,sn,z1,z2,e]
 ·by_cases e:k=n
  ·subst e
   by_cases z:a+b=0
   ·have z':b+a=0:=by omega
    simp[stp,sn,z1,z2,z,z']
   ·have z':¬b+a=0:=by omega
    simp[stp,sn,z1,z2,z,z']
    omega
  ·have e':¬n=k:=fun t=>e t.symm
   simp[stp,sn,z1,z2,e,e']
theorem comm(p q:α×Int){w:List (α×Int)}(h:Red w):stp (sn w q) p=sn (stp w p) q:=by
 cases w with
 |nil=>exact Eo p q
 |cons x r=>
  rcases List.eq_nil_or_concat r with rfl |⟨m,y,e⟩
  ·exact En p q x h
  ·have e':r=m++[y]:=by rw[e] <;> simp
   subst e'
   have e1:x::(m++[y])=(x::m)++[y]:=rfl
   have e2:sn (x::(m++[y])) q=x::(m++FG y q):=by rw[e1,vx];rfl
   rw[e2,iw,iw,←ou,←ou,vx]
theorem gq:∀{m:List (α×Int)} {y z:α×Int},Red (m++[y])→z.2≠0→y.1≠z.1→Red (m++[y]++[z])
 |[],y,z,h,h0,h1=>⟨h,h1,h0⟩
 |[x],y,z,h,h0,h1=>⟨h.1,h.2.1,gq (m:=[]) h.2.2 h0 h1⟩
 |x::x'::m,y,z,h,h0,h1=>⟨h.1,h.2.1,gq (m:=x'::m) h.2.2 h0 h1⟩
theorem mo:∀{w:List (α×Int)},Red w→Red w.reverse
 |[],_=>trivial
 |[p],h=>h
 |p::q::r,h=>by
  have ih:=mo (w:=q::r) h.2.2
  rw[ud,ud]
  rw[ud]at ih
  exact gq ih h.1 fun t=>h.2.1 t.symm
theorem ix(c:List (α×Int)):Red (short c):=mo (As c)
theorem nt(c:List (α×Int))(p:α×Int):short (c++[p])=sn (short c) p:=by
 unfold short stk sn
 rw[List.foldl_append,List.reverse_reverse]
 rfl
theorem gL(p:α×Int):∀c:List (α×Int),short (p::c)=stp (short c) p:=by
 intro c
 induction hn:c.length generalizing c with
 |zero=>
  have:c=[]:=List.length_eq_zero_iff.mp hn
  subst this
  simp[short,stk,stp]
  by_cases z:p.2=0 <;> simp[z]
 |succ n ih=>
  rcases List.eq_nil_or_concat c with rfl |⟨m,y,e⟩
  ·simp at hn
  ·have e':c=m++[y]:=by rw[e] <;> simp
   subst e'
   have hm:m.length=n:=by simp at hn;exact hn
   have e1:p::(m++[y])=(p::m)++[y]:=rfl
   rw[e1,nt,ih m hm,nt,comm p y (ix m)]
theorem qo(r:List (α×Int))(p:α×Int):(stp r p).length≤r.length+1:=by
 cases r with
 |nil=>by_cases z:p.2=0 <;> simp[stp,z]
 |cons q r=>rw[iw];unfold xH;split <;> split <;> simp <;> omega
theorem oW:∀(c:List (α×Int)) (r:List (α×Int)),(c.foldl stp r).length≤r.length+c.length
 |[],r=>by simp
 |p::c,r=>by
  have h1:=oW c (stp r p)
  have h2:=qo r p
  simp only[List.foldl_cons,Z4]
  omega
theorem wB(c:List (α×Int)):(short c).length≤c.length:=by
 have:=oW c []
 simpa[short,stk]using this
end
end NH
namespace L2
open PySem PySem.Spec PyProof.Rows
theorem iy{H:Hp}{p:Addr}(h:H p=none)(o:HO):Same H (upd H p o):=fun b u q=>by rw[aX (bY q h)];exact q
theorem Same.tup{K:Frag}{H H':Hp}{a:Addr}{xs:List V}(e:Same H H')(h:SqT K H a xs):SqT K H' a xs:=by
 rcases h with(h |⟨o,h⟩) |h
 ·exact .inl (.inl (e _ _ h))
 ·exact .inl (.inr ⟨o,e _ _ h⟩)
 ·exact .inr h
def SameBut(l:Addr)(H H':Hp):Prop:=∀b o,b≠l→H b=some o→H' b=some o
theorem SameBut.upd{H:Hp}{l:Addr}(o:HO):SameBut l H (upd H l o):=fun b u hb q=>by rw[aX hb];exact q
theorem SameBut.trans{H H1 H2:Hp}{l:Addr}(a:SameBut l H H1)(b:SameBut l H1 H2):SameBut l H H2:=fun c o hc q=>b c o hc (a c o hc q)
theorem SameBut.same{H H':Hp}{l:Addr}(a:SameBut l H H')(h:H l=none):Same H H':=fun b o q=>a b o (bY q h) q
theorem SameBut.tup{K:Frag}{H H':Hp}{l a:Addr}{xs ys:List V}(e:SameBut l H H')(hl:H l=some (.lst ys))(h:SqT K H a xs):SqT K H' a xs:=by
 rcases h with(h |⟨o,h⟩) |h
 ·exact .inl (.inl (e _ _ (BL h hl (by intro z;cases z)) h))
 ·exact .inl (.inr ⟨o,e _ _ (BL h hl (by intro z;cases z)) h⟩)
 ·exact .inr h
mutual
inductive DOf (K:Frag) (H:Hp):V→PyData→Prop
 |non:DOf K H .non .none
 |bl (b:Bool):DOf K H (.bl b) (.bool b)
 |int (i:Int):DOf K H (.int i) (.int i)
 |str (x:Str):DOf K H (.str x) (.str x)
 |lst {a:Addr} {xs:List V} {ds:List PyData}:SqL K H a xs→DAll K H xs ds→DOf K H (.ref a) (.list ds)
 |tup {a:Addr} {xs:List V} {ds:List PyData}:SqT K H a xs→DAll K H xs ds→DOf K H (.ref a) (.tuple ds)
inductive DAll (K:Frag) (H:Hp):List V→List PyData→Prop
 |nil:DAll K H [] []
 |cons {x:V} {xs:List V} {d:PyData} {ds:List PyData}:DOf K H x d→DAll K H xs ds→DAll K H (x::xs) (d::ds)
end
section
variable {X:Cx} {pins:List (Addr×Obj)} {σ:St} {H:Hp} {s:Shared}
theorem DOf.reads(I:Inv X pins σ H s){x:V}{d:PyData}{u:Value}(h:DOf X.K H x d)(r:RelV x u):∃as,Reads s.heap u d as:=DOf.rec (motive_1:=fun x d _=>∀{u:Value},RelV x u→∃as,Reads s.heap u d as) (motive_2:=fun xs ds _=>∀{us:List Value},Vals xs us→∃as,ReadsAll s.heap us ds as)
  (fun r=>by cases r;exact⟨_,Reads.none⟩) (fun b _ r=>by cases r;exact⟨_,Reads.bool b⟩) (fun i _ r=>by obtain⟨t,rfl⟩:=r;exact⟨_,Reads.int i t⟩) (fun x _ r=>by obtain⟨t,rfl⟩:=r;exact⟨_,Reads.str x t⟩)
  (fun hq _ ih _ r=>by
   cases r
   obtain⟨its,rv,⟨o,n,e,c,_,d⟩,_⟩:=I.list hq
   obtain⟨as,q⟩:=ih rv
   exact⟨_,reads_list_at e c d (by simpa using q)⟩)
  (fun hq _ ih _ r=>by
   cases r
   obtain⟨its,rv,⟨o,e,c,n,d⟩,_⟩:=I.tuple hq
   obtain⟨as,q⟩:=ih rv
   exact⟨_,reads_tuple_at e c d (by simpa using q)⟩)
  (fun r=>by cases r;exact⟨_,ReadsAll.nil⟩)
  (fun _ _ a b _ r=>by
   cases r with
   |cons r rt=>
    obtain⟨as,q⟩:=a r
    obtain⟨bs,p⟩:=b rt
    exact⟨_,ReadsAll.cons q p⟩) h r
end
def Ep(K:Frag):R2:=fun x y H Q=>∃d e,DOf K H x d∧DOf K H y e∧SeqAt.shaped d=true∧SeqAt.shaped e=true∧Q (.bl (PyData.eqv d e)) H
def Er(K:Frag):R2:=fun x y H Q=>∃d e,DOf K H x d∧DOf K H y e∧SeqAt.shaped d=true∧SeqAt.shaped e=true∧Q (.bl (!PyData.eqv d e)) H
theorem x_{X:Cx}(hu:X.A.units+64 < cLine):OpR X (compareOp .Eq) (Ep X.K):=by
 intro pins s σ H x y v u Q I rx ry h
 obtain⟨d,e,hd,he,s1,s2,q⟩:=h
 obtain⟨as,ra⟩:=hd.reads I rx
 obtain⟨bs,rb⟩:=he.reads I ry
 exact eq_dataH ra rb s1 s2 hu ⟨.bl _,H,I,rfl,q⟩
theorem ya{X:Cx}(hu:X.A.units+64 < cLine):OpR X (compareOp .NotEq) (Er X.K):=by
 intro pins s σ H x y v u Q I rx ry h
 obtain⟨d,e,hd,he,s1,s2,q⟩:=h
 obtain⟨as,ra⟩:=hd.reads I rx
 obtain⟨bs,rb⟩:=he.reads I ry
 exact ne_dataH ra rb s1 s2 hu ⟨.bl _,H,I,rfl,q⟩
end L2
namespace L2
open PySem PySem.Spec PyProof.Rows
section
variable {prog:Program} {w:World} {A:Around} {R:Result→Shared→Prop} {s:Shared}
theorem kF{elt target iter:Expr}{ifs:List Expr}{scope:Scope}{pos:Pos}{it acc:Value}{env:Env}(I:Nat→Shared→Prop)
  (turn:∀n s,I n s→wpAny (model prog w) A (pyNext it) (fun r s₁=>match r with
   |none=>R (.ok .next) s₁
   |some v=>wpAny (model prog w) A (letOwnedTupleGo target it v) (fun _ s₁'=>wpAny (model prog w) A (assign target env v) (fun _ s₂=>
     wpAny (model prog w) A (forIn ifs true fun c r=>if r=true then do let ok ←isTrue c env (eval c env);pure (ForInStep.yield ok)else pure (ForInStep.yield r)) (fun ok s₃=>
      if ok=true then wpAny (model prog w) A (eval elt env) (fun x s₄=>
       wpAny (model prog w) A (call (.builtin "list.append") [acc,x]) (fun _ s₅=>∃m,m < n∧I m s₅) (fun _ _=>False) s₄) (fun _ _=>False) s₃
      else ∃m,m < n∧I m s₃) (fun _ _=>False) s₂) (fun _ _=>False) s₁') (fun _ _=>False) s₁) (fun _ _=>False) s)
  (n:Nat) (h:I n s):
  codeAny (model prog w) A (.compLoop (.ListComp elt [⟨target,iter,ifs,0⟩] scope pos) 0 it acc env) R s:=by
 refine codeAny_loop rfl I (fun n s hI=>?_) n h
 show wpAny _ A ((compTurn (.ListComp elt [⟨target,iter,ifs,0⟩] scope pos) 0 it acc env).onRaise (fun x=>do noteFrame x env;theTreesLotGoes x)) _ _ s
 refine wpAny_noted ?_
 rw[compTurn_list]
 refine wpAny_bind (wpAny_standAt (wpAny_bind (wpAny_mono (turn n s hI) (fun r s₁ h₁=>?_) fun _ _ h'=>h'.elim)))
 cases r with
 |none=>exact wpAny_pure h₁
 |some v=>
  refine wpAny_bind (wpAny_mono h₁ (fun _ s₁' h₁'=>?_) fun _ _ h'=>h'.elim)
  refine wpAny_bind (wpAny_mono h₁' (fun _ s₂ h₂=>wpAny_bind (wpAny_mono h₂ (fun ok s₃ h₃=>?_) fun _ _ h'=>h'.elim)) fun _ _ h'=>h'.elim)
  cases ok with
  |false=>exact wpAny_pure ⟨rfl,h₃⟩
  |true=>
   exact wpAny_bind (wpAny_bind (wpAny_mono h₃ (fun x s₄ h₄=>wpAny_bind (wpAny_mono h₄ (fun _ s₅ h₅=>wpAny_pure (wpAny_pure ⟨rfl,h₅⟩)) fun _ _ h'=>h'.elim)) fun _ _ h'=>h'.elim))
end
def Cx.comp(X:Cx)(sc:Scope)(cl:List (Str×Addr))(N:List Str)(C:Addr)(s₀:Shared)(H₀:Hp)(fp:List Addr):Cx:=
 ⟨X.prog,X.w,X.K,X.mg,X.base,X.A,N,s₀,H₀,⟨sc,C,X.env.globals,cl,X.env.qual,none,X.env.code,X.env.frame,X.env.builtins⟩,X.stack,X.stack,fp,fun _=>false,X.calm,[],fun _ _=>False⟩
def Es(X:Cx)(ifs:List Expr)(t:TT):Prop:=
 ∀(pins:List (Addr×Obj)) (s:Shared) (σ:St) (H:Hp) (Q:Bool→Hp→Prop),Inv X pins σ H s→t σ H Q→
  wpAny (model X.prog X.w) X.A (forIn ifs true fun c r=>if r=true then do let ok ←isTrue c X.env (eval c X.env);pure (ForInStep.yield ok)else pure (ForInStep.yield r)) (TP X pins σ Q) X.xe s
def Au:TT:=fun _ H Q=>Q true H
theorem qp{X:Cx}:Es X [] Au:=fun _ _ _ H _ I h=>wpAny_tests_nil ⟨H,I,h⟩
theorem Av{X:Cx}{c:Expr}{t:TT}(h:PT X c t):Es X [c] t:=fun pins s σ H Q I q=>wpAny_tests_one (h pins s σ H Q I q)
def slots(js:List (Option Nat))(σ:St):St:=js.map fun j=>j.bind fun j=>(σ[j]?).join
def mq(js:List (Option Nat))(wi:TI)(g:TG)(tt:TT)(te:TE):TE:=fun σ H Q=>wi σ H fun J H1=>∀l,H1 l=none→∃W:Nat→Nat→St→Hp→Prop,(∃m,W 0 m (slots js σ) (upd H1 l (.lst [])))∧
 ∀i m σ' H',W i m σ' H'→(J.stop i H'∧Q (.ref l) H')∨(J.go i H'∧∃N:St→Hp→Prop,(∀σ' H',N σ' H'→∃m',m' < m∧W (i+1) m' σ' H')∧∀x H2,J.yld i H' x H2→g x σ' H2 fun σ3 H3=>tt σ3 H3 fun b H4=>
  if b=true then te σ3 H4 fun y H5=>∃ys,H5 l=some (.lst ys)∧ys.length < sizeLine∧N σ3 (upd H5 l (.lst (ys++[y])))else N σ3 H4)
section
variable {X:Cx} {elt target iter:Expr} {ifs:List Expr} {scope sc:Scope} {cl:List (Str×Addr)} {N:List Str} {pos:Pos} {wi:TI} {g:TG} {tt:TT} {te:TE} {js:List (Option Nat)}
structure CompOk (X:Cx) (scope sc:Scope) (cl:List (Str×Addr)) (N:List Str) (js:List (Option Nat)):Prop where
 clos:closureFor scope X.env=pure cl
 rel:relabel scope X.env=sc
 nocell:∀y∈scope.names,y.2≠ .cell
 kind:scope.kind=.function
 names:∀y∈scope.names,y.2=.local→scope.names.lookup y.1=some .local
 same:∀x c,cl.lookup x=some c→X.env.cells.lookup x=some c
 has:∀x,(sc.names.lookup x=some .cell∨sc.names.lookup x=some .free)→∃c,cl.lookup x=some c
 len:js.length=N.length
 from_:∀(i j:Nat),js[i]? =some (some j)→∃x,N[i]? =some x∧X.N[j]? =some x∧(sc.names.lookup x=some .cell∨sc.names.lookup x=some .free)∧(X.env.kindOf x=some .cell∨X.env.kindOf x=some .free)
theorem rZ{use:Option (Value→Sem Unit)}{Qv:Value→Shared→Prop}(K:CompOk X scope sc cl N js)(hc:X.calm=true)(hi:PI X target iter wi)
  (hgg:∀C s₀ H₀ fp,PG (X.comp sc cl N C s₀ H₀ fp) target g) (htt:∀C s₀ H₀ fp,Es (X.comp sc cl N C s₀ H₀ fp) ifs tt) (hee:∀C s₀ H₀ fp,PE (X.comp sc cl N C s₀ H₀ fp) elt te)
  (hs:∀x,foldedSetIterable iter X.env x=pure x) (pins:List (Addr×Obj)) (s:Shared) (σ:St) (H:Hp) (Q:VK) (I:Inv X pins σ H s) (h:mq js wi g tt te σ H Q)
  (hend:∀(D C:Addr) (H4:Hp) (s5:Shared) (m:Str→Option Value),Inv X pins σ H4 s5→s5.heap.Ns C m→H4 C=none→C≠X.env.locals→C∉X.fs→X.s₀.heap.objs.size≤C→(∀x c,X.env.cells.lookup x=some c→c≠C)→(∀p∈X.pn++pins,p.1≠C)→Q (.ref D) H4→
   compPost (model X.prog X.w) X.A X.xe use Qv (.ref D) C (.ok .next) s5):
  wpAny (model X.prog X.w) X.A (comprehension (.ListComp elt [⟨target,iter,ifs,0⟩] scope pos) scope X.env (firstIterPos [⟨target,iter,ifs,0⟩] pos) (newList []) false (firstIter [⟨target,iter,ifs,0⟩] X.env) use) Qv X.xe s:=by
 refine wpAny_comprehension_free (use:=use) rfl hs K.clos K.kind K.names (dJ (hi pins s σ H _ I h) fun v s1 h1=>dJ h1 fun itv s2 h2=>?_)
 obtain⟨it,fp,tn,J,H2,e,I2,T,st2,f2,R⟩:=h2
 subst e
 refine wpAny_newObj_type (wpAny_newFunctionEnv K.nocell (by intro y hy;simp at hy) (fun h₁ hns₁ hsb₁=>?_) K.kind)
 dsimp only at hns₁ hsb₁ ⊢
 have I3:Inv X pins σ (upd H2 s2.heap.objs.size (.lst [])) {s2 with heap:=s2.heap.push {cls:=.type "list",dict:=none,data:=.seq ([]:List Value).toArray}}:=
  I2.lnew (t':=s2.toks) (its:=[]) .nil (Nat.zero_le _)
 obtain⟨W,⟨m0,w0⟩,turn⟩:=R s2.heap.objs.size (I2.hok.fresh (fS _))
 generalize hP:s2.heap.push {cls:=.type "list",dict:=none,data:=.seq ([]:List Value).toArray}=h3 at hns₁ hsb₁ I3 ⊢
 generalize hD:s2.heap.objs.size=D at w0 turn I3 ⊢
 have hsz3:h3.objs.size=D+1:=by rw[←hP,Heap.size_push,hD]
 have old3:∀b o,s2.heap.get? b=some o→h3.get? b=some o:=fun b o e=>by rw[←hP];exact gz _ e
 have old:∀b o,h3.get? b=some o→h₁.get? b=some o:=fun b o e=>hsb₁.extBut b o (gK (gn e)) (gz _ e)
 have fpD:∀b∈fp,b < D:=fun b hb=>by
  obtain⟨o,e,_⟩:=T.obj _ _ st2 b hb
  rw[←hD];exact gn e
 have frD:∀b∈fp,(upd H2 D (.lst [])) b=none:=fun b hb=>by rw[aX (gK (fpD b hb))];exact(f2 b hb).1
 have f3:∀b∈fp,kC X pins (upd H2 D (.lst [])) b:=fun b hb=>⟨frD b hb,(f2 b hb).2⟩
 have Hfresh:∀a,h3.objs.size≤a→(upd H2 D (.lst [])) a=none:=fun a ha=>I3.hok.fresh ha
 have cellC:∀x c,X.env.cells.lookup x=some c→c < h3.objs.size:=fun x c e=>by
  obtain⟨v,q⟩:=I3.cell x c e
  exact q.lt
 have YOk:(X.comp sc cl N h3.objs.size {s2 with heap:=h3} (upd H2 D (.lst [])) fp).Ok:=by
  refine⟨I3.ok.mod,?_,I3.ok.glob,I3.ok.blt,fS _,fun x y c e1 e2=>I3.ok.inj x y c (K.same x c e1) (K.same y c e2),fun x hx=>K.has x hx,fun x c hf _=>absurd hf (by intro z;cases z),I3.ok.hd,I3.ok.frames,.inl rfl,fun b hb=>⟨?_,fun x c e=>(f2 b hb).2.2.2.2.1 x c (K.same x c e)⟩,
   I3.bs,jK I3.ok.bsz I3.sz,fun b o e hb=>?_,fun b hb hm=>?_,I3.stack,I3.stkFree,I3.tab⟩
  ·rw[←K.rel];exact K.kind
  ·exact gK (by rw[hsz3];exact rO (fpD b hb))
  ·rcases(f2 b hb).2.2.2.1 with z |z
   ·exact I3.ok.noex b o e z
   ·exact absurd (lE (gn (I3.ok.bs b o e).1) z) (Nat.lt_irrefl _)
  ·rcases Zaq.mp (I3.stkSub b hm)with z |z
   ·exact(f2 b hb).2.1 z
   ·exact(f2 b hb).2.2.1 z
 have IY:Inv (X.comp sc cl N h3.objs.size {s2 with heap:=h3} (upd H2 D (.lst [])) fp) [] (slots js σ) (upd H2 D (.lst [])) {s2 with heap:=h₁,toks:=s2.toks+([]:List (Str×Value)).length}:=by
  refine⟨YOk,rfl,I3.bare,Un.kept old,⟨_,hns₁,fun i x v e1 e2 e3=>?_⟩,fun x c e=>?_,Hfresh _ (fS _),fun x c e=>I3.freeC x c (K.same x c e),fun p hp=>absurd (show p∈([]:List (Addr×Obj))from hp) (by simp),I3.hok.kept old,?_⟩
  ·unfold slots at e2
   rw[we]at e2
   cases ej:js[i]? with
   |none=>rw[ej]at e2;cases e2
   |some jo=>
    rw[ej]at e2
    cases jo with
    |none=>cases e2
    |some j=>
     obtain⟨y,n1,n2,k1,k2⟩:=K.from_ i j ej
     have exy:y=x:=Option.some.inj (n1.symm.trans e1)
     subst exy
     have e2':(σ[j]?).join=some v:=Option.some.inj e2
     have e4:σ[j]? =some (some v):=by
      cases es:σ[j]? with
      |none=>rw[es]at e2';cases e2'
      |some w=>rw[es]at e2';exact congrArg some e2'
     obtain⟨m,_,hl⟩:=I3.loc
     obtain⟨u,ru,lk⟩:=hl j y v n2 e4 (by
      rcases k2 with z |z
      ·exact .inr (.inl z)
      ·exact .inr (.inr z))
     refine⟨u,ru,.inr ⟨k1,?_⟩⟩
     obtain⟨c,hcl⟩:=K.has y k1
     refine⟨c,hcl,?_⟩
     rcases lk with⟨z,_⟩ |⟨_,c',e5,ic⟩
     ·rcases k2 with q |q
      ·rw[q]at z;cases z
      ·rw[q]at z;cases z
     ·have:c'=c:=Option.some.inj (e5.symm.trans (K.same y c hcl))
      subst this
      obtain⟨o,ho,hd⟩:=ic
      exact⟨o,old _ _ ho,hd⟩
  ·obtain⟨v,o,ho,hd⟩:=I3.cell x c (K.same x c e)
   exact⟨v,o,old _ _ ho,hd⟩
  ·unfold slots;rw[eQ];exact K.len
 have qc:∀s₃:Shared,s₃={s2 with heap:=h₁,toks:=s2.toks+([]:List (Str×Value)).length}→
   codeAny (model X.prog X.w) X.A (.compLoop (.ListComp elt [⟨target,iter,ifs,0⟩] scope pos) 0 (.ref it) (.ref D) (X.comp sc cl N h3.objs.size {s2 with heap:=h3} (upd H2 D (.lst [])) fp).env)
    (compPost (model X.prog X.w) X.A X.xe use Qv (.ref D) h3.objs.size) s₃:=by
  rintro s₃ rfl
  refine kF (fun n s'=>∃i σ' H',Inv (X.comp sc cl N h3.objs.size {s2 with heap:=h3} (upd H2 D (.lst [])) fp) [] σ' H' s'∧tn i s'.heap∧(∀b∈fp,H' b=none)∧W i n σ' H') ?_ m0
   ⟨0,_,_,IY,T.keep _ _ _ st2 (fun b hb o e=>old b o (old3 b o e)),frD,w0⟩
  rintro n s4 ⟨i,σ4,H4,I4,st4,fr4,w4⟩
  have ff:∀{H':Hp},(∀b∈fp,H' b=none)→∀b∈fp,kC (X.comp sc cl N h3.objs.size {s2 with heap:=h3} (upd H2 D (.lst [])) fp) [] H' b:=fun hn b hb=>
   ⟨hn b hb,(YOk.exf b hb).1,YOk.exfs b hb,.inl hb,(YOk.exf b hb).2,fun p hp=>absurd (show p∈([]:List (Addr×Obj))from hp) (by simp)⟩
  have hg:=hgg h3.objs.size {s2 with heap:=h3} (upd H2 D (.lst [])) fp
  have ht:=htt h3.objs.size {s2 with heap:=h3} (upd H2 D (.lst [])) fp
  have he:=hee h3.objs.size {s2 with heap:=h3} (upd H2 D (.lst [])) fp
  rcases turn i n σ4 H4 w4 with⟨stop,qn⟩ |⟨go,Nx,hN,step⟩
  ·refine dJ (T.done (X.comp sc cl N h3.objs.size {s2 with heap:=h3} (upd H2 D (.lst [])) fp) rfl rfl rfl hc i [] s4 σ4 H4 _ I4 (ff fr4) st4 stop) fun r s5 ⟨hr,I5⟩=>?_
   subst hr
   obtain⟨m,hn,_⟩:=I5.loc
   have IX:Inv X pins σ H4 s5:=I3.call' (ch:=fp) I5.os I5.base I5.hok I5.bare fun b hb=>⟨(f3 b hb).2.2.2.1,(f3 b hb).2.1,(f3 b hb).2.2.2.2.1,(f3 b hb).2.2.2.2.2⟩
   exact hend D h3.objs.size H4 s5 m IX hn I5.free (Ne.symm (gK I3.lt)) (I3.nofs (fS _)) I3.sz (fun x c e=>gK (cellC x c e)) (fun p hp=>gK (gn (I3.pin p hp).1)) qn
  ·refine dJ (T.item (X.comp sc cl N h3.objs.size {s2 with heap:=h3} (upd H2 D (.lst [])) fp) rfl rfl rfl hc i [] s4 σ4 H4 _ I4 (ff fr4) st4 go) fun r s5 ⟨u,hr,h5⟩=>?_
   subst hr
   refine dJ h5 fun _ s6 ⟨x,H6,I6,r6,y6,st6,fr6⟩=>?_
   have I6':=I6.pinned (ff fr6) (T.obj _ _ st6)
   have back:∀{σ7:St} {H7:Hp} {s7:Shared},Inv (X.comp sc cl N h3.objs.size {s2 with heap:=h3} (upd H2 D (.lst [])) fp) ([]++jX fp s6.heap) σ7 H7 s7→
     Inv (X.comp sc cl N h3.objs.size {s2 with heap:=h3} (upd H2 D (.lst [])) fp) [] σ7 H7 s7∧tn (i+1) s7.heap∧∀b∈fp,H7 b=none:=fun {σ7 H7 s7} I7=>
    ⟨I7.unpinned,T.keep _ _ _ st6 fun b hb o e=>(I7.pin (b,o) (lD _ (lD _ (fe hb e)))).1,fun b hb=>by
     obtain⟨o,e,d⟩:=T.obj _ _ st6 b hb
     exact(I7.pin (b,o) (lD _ (lD _ (fe hb e)))).2.1⟩
   refine dJ (hg _ s6 σ4 H6 x u _ I6' r6 (step x H6 y6)) fun _ s7 ⟨σ7,H7,I7,q7⟩=>?_
   refine dJ (ht _ s7 σ7 H7 _ I7 q7) fun b s8 ⟨H8,I8,q8⟩=>?_
   cases b with
   |false=>
    obtain⟨m',hm,w8⟩:=hN σ7 H8 q8
    obtain⟨J1,J2,J3⟩:=back I8
    exact⟨m',hm,i+1,σ7,H8,J1,J2,J3,w8⟩
   |true=>
    refine dJ (he _ s8 σ7 H8 _ I8 q8) fun yv s9 ⟨y,H9,I9,r9,ys,hl,hz,n9⟩=>?_
    obtain⟨m',hm,w9⟩:=hN _ _ n9
    refine dJ (lJ _ s9 σ7 H9 (.ref D) [y] (.ref D) [yv] (fun v H'=>v=.non∧H'=upd H9 D (.lst (ys++[y]))) I9 rfl (.cons r9 .nil) ⟨D,ys,y,rfl,rfl,hl,hz,rfl,rfl⟩) fun _ sA ⟨_,HA,IA,_,_,eA⟩=>?_
    subst eA
    obtain⟨J1,J2,J3⟩:=back IA
    exact⟨m',hm,i+1,σ7,_,J1,J2,J3,w9⟩
 rw[K.rel]
 exact codeAny_compStart_list (qc _ rfl) (T.self _ 0 _ _ _ (T.keep _ _ _ st2 (fun b hb o e=>old b o (old3 b o e))) (qc _ rfl))
theorem qr(K:CompOk X scope sc cl N js)(hc:X.calm=true)(hi:PI X target iter wi)
  (hgg:∀C s₀ H₀ fp,PG (X.comp sc cl N C s₀ H₀ fp) target g) (htt:∀C s₀ H₀ fp,Es (X.comp sc cl N C s₀ H₀ fp) ifs tt) (hee:∀C s₀ H₀ fp,PE (X.comp sc cl N C s₀ H₀ fp) elt te)
  (hs:∀x,foldedSetIterable iter X.env x=pure x:=by intro _;rfl):PE X (.ListComp elt [⟨target,iter,ifs,0⟩] scope pos) (mq js wi g tt te):=by
 intro pins s σ H Q I h
 rw[eval_ListComp]
 refine rZ (use:=none) K hc hi hgg htt hee hs pins s σ H Q I h fun D C H4 s5 m IX hn fC nL _ sz nc np qn=>?_
 exact⟨m,hn,fun h' hs'=>⟨.ref D,H4,IX.turned (t':=s5.toks) (it:=C) (fun b o hb e=>(hs'.2 b hb).trans e) fC nL (.inr sz) nc np,rfl,qn⟩⟩
theorem Aw{x:Str}{px spos:Pos}{gx:TG}(K:CompOk X scope sc cl N js)(hc:X.calm=true)(hx:PG X (.Name x px) gx)(hi:PI X target iter wi)
  (hgg:∀C s₀ H₀ fp,PG (X.comp sc cl N C s₀ H₀ fp) target g) (htt:∀C s₀ H₀ fp,Es (X.comp sc cl N C s₀ H₀ fp) ifs tt) (hee:∀C s₀ H₀ fp,PE (X.comp sc cl N C s₀ H₀ fp) elt te)
  (hs:∀x,foldedSetIterable iter X.env x=pure x:=by intro _;rfl) (hsw:swapsWith (.ListComp elt [⟨target,iter,ifs,0⟩] scope pos) (some (.Name x px)) spos.line X.env=pure true:=by rfl):
  PS X (.Assign [.Name x px] (.ListComp elt [⟨target,iter,ifs,0⟩] scope pos) spos) (Cv (mq js wi g tt te) gx):=by
 intro pins s σ H D I h
 rw[exec_Assign_Name_used _ _ _ _ hsw]
 refine wpAny_bind (wpAny_standAt (wpAny_bind ?_))
 show wpAny _ _ (comprehension (.ListComp elt [⟨target,iter,ifs,0⟩] scope pos) scope X.env (firstIterPos [⟨target,iter,ifs,0⟩] pos) (newList []) false (firstIter [⟨target,iter,ifs,0⟩] X.env) (some (assign (.Name x px) X.env)) >>= fun _=>pure ()) _ _ _
 refine wpAny_bind (wpAny_mono (rZ (use:=some (assign (.Name x px) X.env)) (Qv:=fun _ s'=>∃σ' H',Inv X pins σ' H' s'∧D.nx σ' H') K hc hi hgg htt hee hs pins s σ H _ I h fun Dd C H4 s5 m IX hn fC nL nF sz nc np qn=>?_) (fun _ s' ⟨σ',H',I',q'⟩=>wpAny_pure (wpAny_pure ⟨σ',H',I',q'⟩)) fun _ _ e=>e)
 obtain⟨o,es,ep,ho,hd,r⟩:=hn
 have IP:Inv X ((C,o)::pins) σ H4 s5:=IX.pins_of fun p hp=>(Zaq.mp hp).elim (fun z=>by subst z;exact⟨ho,fC,nL,nF,fun v z=>by rw[hd]at z;cases z⟩) fun z=>IX.pin p (lD _ z)
 refine wpAny_mono (hx ((C,o)::pins) s5 σ H4 (.ref Dd) (.ref Dd) D.nx IP rfl qn) (fun _ s6 ⟨σ6,H6,I6,q6⟩=>?_) fun _ _ e=>e
 obtain⟨p1,p2,_⟩:=I6.pin (C,o) (lD _ (ir ..))
 have I7:Inv X pins σ6 H6 s6:=I6.pins_of fun p hp=>I6.pin p (lD _ (g6 _ hp))
 exact⟨m,⟨o,es,ep,p1,hd,r⟩,fun h' hs'=>⟨σ6,H6,I7.turned (t':=s6.toks) (it:=C) (fun b o hb e=>(hs'.2 b hb).trans e) p2 nL (.inr sz) nc np,q6⟩⟩
end
end L2
namespace L2
open PySem PySem.Spec PyProof.Rows
theorem fJ{X:Cx}{scope:Scope}{N:List Str}{js:List (Option Nat)}(hf:∀x∈scope.names,x.2≠ .free:=by decide+kernel)(hcell:∀x∈scope.names,x.2≠ .cell:=by decide+kernel)
  (hk:scope.kind=.function:=by rfl) (hn:∀y∈scope.names,y.2=.local→scope.names.lookup y.1=some .local:=by decide+kernel) (hl:js.length=N.length:=by rfl) (hj:∀j∈js,j=none:=by decide):CompOk X scope scope [] N js where
 clos:=closureFor_none hf
 rel:=by
  unfold relabel
  have e:(scope.names.map fun(x:Str×NameKind)=>match x with |(n,k)=>if (k ==.free&&X.env.scope.kind ==.function&&X.env.kindOf n == some .cell)then (n,NameKind.cell)else (n,k))=scope.names:=by
   refine map_eq_self fun x hx=>?_
   obtain⟨n,k⟩:=x
   have:(k == NameKind.free)=false:=by simpa using hf _ hx
   simp[this]
  rw[e]
 nocell:=hcell
 kind:=hk
 names:=hn
 same:=fun x c e=>by simp at e
 has:=fun x h=>by
  rcases h with h |h
  ·exact absurd rfl (hcell _ (PySem.mem_of_lookup h))
  ·exact absurd rfl (hf _ (PySem.mem_of_lookup h))
 len:=hl
 from_:=fun i j h=>by
  have:=hj _ (List.mem_of_getElem? h)
  cases this
structure Own (P:Program) (w:World) (K:Frag) (mg:Str→Option Value) (base:Heap) (k:Nat) (x:Str) (ps:List Str) (sp:Sp):Prop where
 ex:∃(f:Addr) (fd:FuncData),FnOk P w K mg base wA k f fd ps sp∧Binds K fd ps []∧mg x=some (.ref f)∧keepIn K (.ref f)=true
theorem CQ{X:Cx}{k:Nat}{x:Str}{ps:List Str}{sp:Sp}{p pos:Pos}{e:Expr}{es:List Expr}{t:TA}(D:Own X.prog X.w X.K X.mg X.base k x ps sp)(hr:Room k X.A)(hg:Gl X x)(ha:PA X (e::es) t)
  (hdb:(x == ("__debug__":Str))=false:=by decide) (he:starEach (e::es) X.env=(false,eval e X.env)::starEach es X.env:=by rfl) (hpl:(backTo pos (starEach es X.env)).any (·.1)=false:=by rfl):
  PE X (.Call (.Name x p) (e::es) [] pos) (oQ sp [] E0 t):=by
 obtain⟨f,fd,F,b,m,kp⟩:=D.ex
 exact Ai F hr hg m kp b .nil BS ha hdb he hpl
structure Def (K:Frag) (mg:Str→Option Value) (x:Str) (st:Stmt) (ps:List Str):Prop where
 ex:∃(f:Addr) (fd:FuncData),Fun K x x st f fd∧mg x=some (.ref f)∧Binds K fd ps []
theorem Def.own{P:Program}{w:World}{K:Frag}{mg:Str→Option Value}{base:Heap}{x:Str}{st:Stmt}{N ps:List Str}{k:Nat}{sp:Sp}(D:Def K mg x st ps)(S:FnScope N ps (ao st))
  (len:∀vs H Q E,sp vs H Q E→vs.length=ps.length)
  (hbody:∀(f:Addr) (cdv:Value) (A:Around) (outer:List Env) (s:Shared) (H:Hp) (vs:List V) (Q:VK) (E:XK),Room k (A.deeper (envOfC x (ao st) s.heap.objs.size f cdv))→sp vs H Q E→
   ∃t,PSs (oA wA P w K mg base N x (ao st) f cdv A outer s H E).nox (cQ st) t∧t {nx:=fun _ H'=>Q .non H',rt:=Q} (iv N vs) H):Own P w K mg base (k+1) x ps sp:=by
 obtain⟨f,fd,F,m,b⟩:=D.ex
 exact⟨f,fd,F.ok S len (hbody f),b,m,F.kp⟩
theorem CS{K:Frag}{h:Heap}{mg:Str→Option Value}{x:Str}{st:Stmt}{ps:List Str}{f:Addr}{oc:Value}{od an:Option Addr}{osl:Array (Option Value)}{kV doc pm cdv ct:Value}(X:K.In h)(G:h.Ns mainGlobals mg)
  (a:nsIn K mainGlobals x=some (some (.ref f))) (l:K.lookup f=some ⟨oc,od,.func (fnOf x x (eN st) (cQ st) (ao st) .none kV doc pm an cdv ct),osl⟩)
  (c:codeIn K cdv x=true) (k:keepIn K (.ref f)=true)
  (b:∀(kV doc pm:Value) (an:Option Addr) (cdv ct:Value) (us:List Value),us.length=ps.length→bindArgs (fnOf x x (eN st) (cQ st) (ao st) .none kV doc pm an cdv ct) ⟨us,[]⟩=pure (ps.zip us)):Def K mg x st ps:=
 ⟨f,_,uu l c k,mg_of X G a,(uu (st:=st) l c k).binds b⟩
end L2
namespace Nh
open PySem L2
section
variable {α β:Type} {F:α→β→Prop}
theorem jz:∀{a:List α} {b:List β} {c:List α} {d:List β},Paired F a b→Paired F c d→Paired F (a++c) (b++d)
 |_,_,_,_,.nil,s=>s
 |_,_,_,_,.cons r t,s=>.cons r (jz t s)
theorem vy:∀{a:List α} {b:List β} (n:Nat),Paired F a b→Paired F (a.take n) (b.take n)
 |_,_,0,_=>.nil
 |_,_,_+1,.nil=>.nil
 |_,_,n+1,.cons r t=>.cons r (vy n t)
theorem vz:∀{a:List α} {b:List β} (n:Nat),Paired F a b→Paired F (a.drop n) (b.drop n)
 |_,_,0,r=>r
 |_,_,_+1,.nil=>.nil
 |_,_,n+1,.cons _ t=>vz n t
theorem jY:∀{a:List α} {b:List β},Paired F a b→Paired F a.reverse b.reverse
 |_,_,.nil=>.nil
 |_,_,.cons r t=>by
  rw[ud,ud]
  exact jz (jY t) (.cons r .nil)
theorem vA:∀{a:List α} {b:List β} {i:Nat} {y:β},Paired F a b→b[i]? =some y→∃x,a[i]? =some x∧F x y
 |_,_,_,_,.nil,e=>by simp at e
 |_,_,0,_,.cons r _,e=>by simp at e;subst e;exact⟨_,rfl,r⟩
 |_,_,i+1,x,.cons _ t,e=>by
  obtain⟨u,h1,h2⟩:=vA (i:=i) (y:=x) t (by simpa using e)
  exact⟨u,by simpa using h1,h2⟩
theorem yb{a:List α}{b:List β}(h:Paired F a b):∀k:Nat,Paired F (List.replicate k a).flatten (List.replicate k b).flatten
 | 0=>.nil
 |k+1=>by
  rw[List.replicate_succ,List.replicate_succ,List.flatten_cons,List.flatten_cons]
  exact jz h (yb h k)
end
abbrev Pc:=Nat×Int
def tv(p:Pc):List V:=[.str ⟨#[p.1]⟩,.int p.2]
def FH(H:Hp)(v:V)(p:Pc):Prop:=∃t,v=.ref t∧H t=some (.tup (tv p))
abbrev PAll(H:Hp):List V→List Pc→Prop:=Paired (FH H)
section
variable {H H':Hp} {l:Addr} {xs ys:List V} {c:List Pc}
theorem PAll.same(s:Same H H')(h:PAll H xs c):PAll H' xs c:=Paired.mapP h fun _ _ ⟨t,e,q⟩=>⟨t,e,s _ _ q⟩
theorem PAll.len(h:PAll H xs c):xs.length=c.length:=Paired.length h
end
def Cord(H:Hp)(a:Addr)(c:List Pc):Prop:=∃xs,H a=some (.lst xs)∧PAll H xs c
section
variable {H H':Hp} {a:Addr} {c d:List Pc}
theorem Cord.same(s:Same H H')(h:Cord H a c):Cord H' a c:=let ⟨xs,e,p⟩:=h;⟨xs,s _ _ e,p.same s⟩
end
def aj(p:Pc):PyData:=.tuple [.str ⟨#[p.1]⟩,.int p.2]
def jN(c:List Pc):PyData:=.list (c.map aj)
def NailsOk(c:List Pc):Prop:=∀p∈c,p.1 < 128
theorem oX{K:Frag}{H:Hp}:∀{xs:List V} {c:List Pc},PAll H xs c→DAll K H xs (c.map aj)
 |_,_,.nil=>.nil
 |_,_,.cons ⟨t,e,q⟩ r=>by
  subst e
  exact .cons (.tup (SqT.of q) (.cons (.str _) (.cons (.int _) .nil))) (oX r)
theorem Cord.data{K:Frag}{H:Hp}{a:Addr}{c:List Pc}(h:Cord H a c):DOf K H (.ref a) (jN c):=
 let ⟨_,e,p⟩:=h; .lst (SqL.of e) (oX p)
theorem Et{p:Pc}(h:p.1 < 128):(aj p).canLay0=true:=by
 have:p.1 < 1114112:=by omega
 simp[aj,PyData.canLay0,PyData.canLayAll0,PyData.strOk,this]
theorem r8:∀{c:List Pc},NailsOk c→PyData.canLayAll0 (c.map aj)=true∧PyData.depthAll (c.map aj)≤1
 |[],_=>by simp[PyData.canLayAll0,PyData.depthAll]
 |p::c,h=>by
  have ih:=r8 (c:=c) fun q hq=>h q (g6 _ hq)
  have h1:=Et (h p (ir ..))
  have h2:=ih.2
  simp only[ce,PyData.canLayAll0,PyData.depthAll,h1,ih.1,Bool.and_self,true_and]
  have h3:(aj p).depth=1:=by simp[aj,PyData.depth,PyData.depthAll]
  omega
theorem mr{c:List Pc}(h:NailsOk c):SeqAt.shaped (jN c)=true:=by
 have q:=r8 h
 have q2:=q.2
 unfold SeqAt.shaped
 simp only[jN,PyData.canLay0,PyData.depth,q.1,Bool.true_and]
 exact decide_eq_true (by omega)
theorem CT(p q:Pc):PyData.eqv (aj p) (aj q)=decide (p=q):=by
 obtain⟨n,a⟩:=p
 obtain⟨m,b⟩:=q
 simp only[aj,PyData.eqv,PyData.eqvAll,Bool.and_true]
 rw[Bool.eq_iff_iff]
 simp
theorem oY:∀c d:List Pc,PyData.eqvAll (c.map aj) (d.map aj)=decide (c=d)
 |[],[]=>by simp[PyData.eqvAll]
 |[],_::_=>by simp[PyData.eqvAll]
 |_::_,[]=>by simp[PyData.eqvAll]
 |p::c,q::d=>by
  simp only[ce,PyData.eqvAll,CT,oY c d]
  rw[Bool.eq_iff_iff]
  simp
theorem yc(c d:List Pc):PyData.eqv (jN c) (jN d)=decide (c=d):=by
 simp only[jN,PyData.eqv,oY]
end Nh
namespace PL
open PySem PySem.Spec PyProof.Rows L2 Nh
def FI:e8→PyData
 |.inl i=>.int i
 |.inr x=>.str x
mutual
inductive Rp (K:Frag) (H:Hp):V→PyData→Prop
 |non:Rp K H .non .none
 |bl (b:Bool):Rp K H (.bl b) (.bool b)
 |int (i:Int):Rp K H (.int i) (.int i)
 |str (x:Str):Rp K H (.str x) (.str x)
 |lst {a:Addr} {xs:List V} {ds:List PyData}:SqL K H a xs→RpA K H xs ds→Rp K H (.ref a) (.list ds)
 |tup {a:Addr} {xs:List V} {ds:List PyData}:SqT K H a xs→RpA K H xs ds→Rp K H (.ref a) (.tuple ds)
 |dct {a:Addr} {us:List (e8×V)} {kvs:List (PyData×PyData)}:Rd H a (.dK us)→RpK K H us kvs→Rp K H (.ref a) (.dict kvs)
inductive RpA (K:Frag) (H:Hp):List V→List PyData→Prop
 |nil:RpA K H [] []
 |cons {x:V} {xs:List V} {d:PyData} {ds:List PyData}:Rp K H x d→RpA K H xs ds→RpA K H (x::xs) (d::ds)
inductive RpK (K:Frag) (H:Hp):List (e8×V)→List (PyData×PyData)→Prop
 |nil:RpK K H [] []
 |cons {k:e8} {x:V} {us:List (e8×V)} {d:PyData} {kvs:List (PyData×PyData)}:Rp K H x d→RpK K H us kvs→RpK K H ((k,x)::us) ((FI k,d)::kvs)
end
mutual
def cS:PyData→Bool
 |.none=>true
 |.bool _=>true
 |.int _=>true
 |.str _=>true
 |.list _=>false
 |.tuple xs=>bH xs
 |.dict _=>false
def bH:List PyData→Bool
 |[]=>true
 |d::ds=>cS d&&bH ds
end
def BT:HO→Bool
 |.tup _=>true
 |.frz _ _=>true
 |_=>false
def tups(H:Hp):Hp:=fun b=>(H b).filter BT
theorem lM(H:Hp):Same (tups H) H:=fun b o h=>(Option.filter_eq_some_iff.mp h).1
theorem kG{H:Hp}{b:Addr}{o:HO}(h:H b=some o)(c:BT o=true):tups H b=some o:=Option.filter_eq_some_iff.mpr ⟨h,c⟩
theorem r_{H:Hp}{l:Addr}{xs ys:List V}(h:H l=some (.lst xs)):tups (upd H l (.lst ys))=tups H:=by
 funext b
 unfold tups
 by_cases e:b=l
 ·subst e
  rw[c_,h]
  rfl
 ·rw[aX e]
section
variable {K:Frag} {H H':Hp}
theorem se{a:Addr}{xs:List V}(h:SqT K H a xs):SqT K (tups H) a xs:=by
 rcases h with(h |⟨o,h⟩) |h
 ·exact .inl (.inl (kG h rfl))
 ·exact .inl (.inr ⟨o,kG h rfl⟩)
 ·exact .inr h
theorem qu{a:Addr}{u:HO}(s:Same H H')(h:Rd H a u):Rd H' a u:=by
 rcases h with h |⟨o,h⟩
 ·exact .inl (s _ _ h)
 ·exact .inr ⟨o,s _ _ h⟩
theorem Rp.same(s:Same H H'){v:V}{d:PyData}(h:Rp K H v d):Rp K H' v d:=Rp.rec (motive_1:=fun v d _=>Rp K H' v d) (motive_2:=fun v d _=>RpA K H' v d) (motive_3:=fun v d _=>RpK K H' v d) .non .bl .int .str (fun h _ r=>.lst (s.seq h) r) (fun h _ r=>.tup (s.tup h) r) (fun h _ r=>.dct (qu s h) r) .nil (fun _ _ a b=>.cons a b) .nil (fun _ _ a b=>.cons a b) h
theorem RpA.same(s:Same H H'){v:List V}{d:List PyData}(h:RpA K H v d):RpA K H' v d:=RpA.rec (motive_1:=fun v d _=>Rp K H' v d) (motive_2:=fun v d _=>RpA K H' v d) (motive_3:=fun v d _=>RpK K H' v d) .non .bl .int .str (fun h _ r=>.lst (s.seq h) r) (fun h _ r=>.tup (s.tup h) r) (fun h _ r=>.dct (qu s h) r) .nil (fun _ _ a b=>.cons a b) .nil (fun _ _ a b=>.cons a b) h
theorem RpK.same(s:Same H H'){v:List (e8×V)}{d:List (PyData×PyData)}(h:RpK K H v d):RpK K H' v d:=RpK.rec (motive_1:=fun v d _=>Rp K H' v d) (motive_2:=fun v d _=>RpA K H' v d) (motive_3:=fun v d _=>RpK K H' v d) .non .bl .int .str (fun h _ r=>.lst (s.seq h) r) (fun h _ r=>.tup (s.tup h) r) (fun h _ r=>.dct (qu s h) r) .nil (fun _ _ a b=>.cons a b) .nil (fun _ _ a b=>.cons a b) h
theorem Rp.cold{v:V}{d:PyData}(h:Rp K H v d)(e:cS d=true):Rp K (tups H) v d:=Rp.rec (motive_1:=fun v d _=>cS d=true→Rp K (tups H) v d) (motive_2:=fun v d _=>bH d=true→RpA K (tups H) v d) (motive_3:=fun _ _ _=>True) (fun _=>.non) (fun b _=>.bl b) (fun i _=>.int i) (fun x _=>.str x) (fun _ _ _ e=>nomatch e) (fun h _ r e=>.tup (se h) (r e)) (fun _ _ _ e=>nomatch e) (fun _=>.nil) (fun _ _ a b e=>.cons (a (Bool.and_eq_true_iff.mp e).1) (b (Bool.and_eq_true_iff.mp e).2)) trivial (fun _ _ _ _=>trivial) h e
theorem RpA.cold{v:List V}{d:List PyData}(h:RpA K H v d)(e:bH d=true):RpA K (tups H) v d:=RpA.rec (motive_1:=fun v d _=>cS d=true→Rp K (tups H) v d) (motive_2:=fun v d _=>bH d=true→RpA K (tups H) v d) (motive_3:=fun _ _ _=>True) (fun _=>.non) (fun b _=>.bl b) (fun i _=>.int i) (fun x _=>.str x) (fun _ _ _ e=>nomatch e) (fun h _ r e=>.tup (se h) (r e)) (fun _ _ _ e=>nomatch e) (fun _=>.nil) (fun _ _ a b e=>.cons (a (Bool.and_eq_true_iff.mp e).1) (b (Bool.and_eq_true_iff.mp e).2)) trivial (fun _ _ _ _=>trivial) h e
theorem Rp.dof'{v:V}{d:PyData}(h:Rp K H v d)(e:d.canLay0=true):DOf K H v d:=Rp.rec (motive_1:=fun v d _=>d.canLay0=true→DOf K H v d) (motive_2:=fun v d _=>PyData.canLayAll0 d=true→DAll K H v d) (motive_3:=fun _ _ _=>True) (fun _=>.non) (fun b _=>.bl b) (fun i _=>.int i) (fun x _=>.str x) (fun h _ r e=>.lst h (r e)) (fun h _ r e=>.tup h (r e)) (fun _ _ _ e=>nomatch e) (fun _=>.nil) (fun _ _ a b e=>.cons (a (Bool.and_eq_true_iff.mp e).1) (b (Bool.and_eq_true_iff.mp e).2)) trivial (fun _ _ _ _=>trivial) h e
theorem Rp.dof{v:V}{d:PyData}(h:Rp K H v d)(e:SeqAt.shaped d=true):DOf K H v d:=h.dof' (SeqAt.canLay_of_shaped e)
theorem RpA.pr{vs:List V}{ds:List PyData}(h:RpA K H vs ds):Paired (Rp K H) vs ds:=RpA.rec (motive_1:=fun _ _ _=>True) (motive_2:=fun v d _=>Paired (Rp K H) v d) (motive_3:=fun _ _ _=>True) trivial (fun _=>trivial) (fun _=>trivial) (fun _=>trivial) (fun _ _ _=>trivial) (fun _ _ _=>trivial) (fun _ _ _=>trivial) .nil (fun h _ _ b=>.cons h b) trivial (fun _ _ _ _=>trivial) h
theorem RpA.of{vs:List V}{ds:List PyData}(h:Paired (Rp K H) vs ds):RpA K H vs ds:=by
 induction h with
 |nil=>exact .nil
 |cons a _ b=>exact .cons a b
theorem RpA.len{vs:List V}{ds:List PyData}(h:RpA K H vs ds):vs.length=ds.length:=Paired.length h.pr
theorem RpA.append{vs us:List V}{ds es:List PyData}(h:RpA K H vs ds)(k:RpA K H us es):RpA K H (vs++us) (ds++es):=.of (jz h.pr k.pr)
theorem RpA.take{vs:List V}{ds:List PyData}(n:Nat)(h:RpA K H vs ds):RpA K H (vs.take n) (ds.take n):=.of (vy n h.pr)
theorem RpA.drop{vs:List V}{ds:List PyData}(n:Nat)(h:RpA K H vs ds):RpA K H (vs.drop n) (ds.drop n):=.of (vz n h.pr)
theorem RpA.rev{vs:List V}{ds:List PyData}(h:RpA K H vs ds):RpA K H vs.reverse ds.reverse:=.of (jY h.pr)
theorem RpA.rep{vs:List V}{ds:List PyData}(n:Nat)(h:RpA K H vs ds):RpA K H (List.replicate n vs).flatten (List.replicate n ds).flatten:=.of (yb h.pr n)
theorem RpA.get{vs:List V}{ds:List PyData}{i:Nat}{d:PyData}(h:RpA K H vs ds)(e:ds[i]? =some d):∃v,vs[i]? =some v∧Rp K H v d:=vA h.pr e
theorem RpA.set:∀{vs:List V} {ds:List PyData} {v:V} {d:PyData} (i:Nat),RpA K H vs ds→Rp K H v d→RpA K H (vs.set i v) (ds.set i d)
 |_,_,_,_,_,.nil,_=>.nil
 |_,_,_,_,0,.cons _ r,h=>.cons h r
 |_,_,_,_,i+1,.cons q r,h=>.cons q (RpA.set i r h)
theorem RpA.dropLast{vs:List V}{ds:List PyData}(h:RpA K H vs ds):RpA K H vs.dropLast ds.dropLast:=by
 rw[List.dropLast_eq_take,List.dropLast_eq_take,h.len]
 exact h.take _
theorem RpA.snoc{vs:List V}{ds:List PyData}{v:V}{d:PyData}(h:RpA K H vs ds)(k:Rp K H v d):RpA K H (vs++[v]) (ds++[d]):=h.append (.cons k .nil)
end
inductive Pt where
 |fl (d:PyData) |ol (ds:List PyData)
def Pt.val:Pt→PyData
 |.fl d=>d
 |.ol ds=>.list ds
inductive Sl where
 /-- nothing is known -/
 |no
 /-- never written again -/
 |sh (d:PyData)
 /-- a list of one's own -/
 |ow (ds:List PyData)
 /-- a dict of one's own,its values lists of one's own -/
 |od (kvs:List (e8×List PyData))
 /-- a dict of one's own,its values cS -/
 |oi (kvs:List (e8×PyData))
 /-- a tuple with lists of one's own -/
 |tx (ps:List Pt)
 /-- (a part of an expression) the value of a name -/
 |al (i:Nat)
 /-- (a part of an expression) as it stands just now -/
 |br (d:PyData)
def PtsOk(K:Frag)(F H:Hp):List V→List Pt→List Addr→Prop
 |[],[],A=>A=[]
 |v::vs,.fl d::ps,A=>Rp K F v d∧PtsOk K F H vs ps A
 |v::vs,.ol ds::ps,A=>∃l us A',v=.ref l∧A=l::A'∧H l=some (.lst us)∧RpA K F us ds∧PtsOk K F H vs ps A'
 |_,_,_=>False
def KvOk(K:Frag)(F:Hp):List (e8×V)→List (e8×PyData)→Prop:=Paired fun p q=>p.1=q.1∧Rp K F p.2 q.2
def DlOk(K:Frag)(F H:Hp):List (e8×V)→List (e8×List PyData)→List Addr→Prop
 |[],[],A=>A=[]
 |p::us,q::kvs,A=>∃l vs A',p=(q.1,.ref l)∧A=l::A'∧H l=some (.lst vs)∧RpA K F vs q.2∧DlOk K F H us kvs A'
 |_,_,_=>False
def SlOk(K:Frag)(F H:Hp)(σ:L2.St)(o:Option V):Sl→List Addr→Prop
 |.no,A=>A=[]
 |.sh d,A=>A=[]∧∃v,o=some v∧Rp K F v d
 |.ow ds,A=>∃l vs,o=some (.ref l)∧A=[l]∧H l=some (.lst vs)∧RpA K F vs ds
 |.od kvs,A=>∃l us A',o=some (.ref l)∧A=l::A'∧H l=some (.dK us)∧DlOk K F H us kvs A'
 |.oi kvs,A=>∃l us,o=some (.ref l)∧A=[l]∧H l=some (.dK us)∧KvOk K F us kvs
 |.tx ps,A=>∃t vs,o=some (.ref t)∧F t=some (.tup vs)∧PtsOk K F H vs ps A
 |.al i,A=>A=[]∧∃v,o=some v∧σ[i]? =some (some v)
 |.br d,A=>A=[]∧∃v,o=some v∧Rp K H v d
def Sl.isBr:Sl→Bool
 |.br _=>true
 |_=>false
def Sl.isAl:Sl→Bool
 |.al _=>true
 |.br _=>true
 |_=>false
section
variable {K:Frag} {F F' H H':Hp} {σ σ':L2.St}
theorem PtsOk.stay(s:Same F F'):∀{vs:List V} {ps:List Pt} {A:List Addr},(∀b∈A,H' b=H b)→PtsOk K F H vs ps A→PtsOk K F' H' vs ps A
 |[],[],A,_,h=>h
 |v::vs,.fl d::ps,A,e,h=>⟨h.1.same s,PtsOk.stay s e h.2⟩
 |v::vs,.ol ds::ps,A,e,h=>by
  obtain⟨l,us,A',rfl,rfl,hl,hr,q⟩:=h
  exact⟨l,us,A',rfl,rfl,(e l (ir ..)).trans hl,hr.same s,q.stay s fun b hb=>e b (g6 _ hb)⟩
 |[],_::_,_,_,h=>False.elim h
 |_::_,[],_,_,h=>False.elim h
theorem DlOk.stay(s:Same F F'):∀{us:List (e8×V)} {kvs:List (e8×List PyData)} {A:List Addr},(∀b∈A,H' b=H b)→DlOk K F H us kvs A→DlOk K F' H' us kvs A
 |[],[],A,_,h=>h
 |p::us,q::kvs,A,e,h=>by
  obtain⟨l,vs,A',rfl,rfl,hl,hr,k⟩:=h
  exact⟨l,vs,A',rfl,rfl,(e l (ir ..)).trans hl,hr.same s,k.stay s fun b hb=>e b (g6 _ hb)⟩
 |[],_::_,_,_,h=>False.elim h
 |_::_,[],_,_,h=>False.elim h
theorem DlOk.some:∀{us:List (e8×V)} {kvs:List (e8×List PyData)} {A:List Addr},DlOk K F H us kvs A→∀a∈A,∃vs,H a=some (.lst vs)
 |[],[],A,h,a,ha=>by rw[show A=[]from h]at ha;cases ha
 |p::us,q::kvs,A,h,a,ha=>by
  obtain⟨l,vs,A',rfl,rfl,hl,hr,k⟩:=h
  rcases Zaq.mp ha with e |e
  ·subst e;exact⟨vs,hl⟩
  ·exact k.some a e
 |[],_::_,_,h,_,_=>False.elim h
 |_::_,[],_,h,_,_=>False.elim h
theorem PtsOk.some:∀{vs:List V} {ps:List Pt} {A:List Addr},PtsOk K F H vs ps A→∀a∈A,∃us,H a=some (.lst us)
 |[],[],A,h,a,ha=>by rw[show A=[]from h]at ha;cases ha
 |v::vs,.fl d::ps,A,h,a,ha=>PtsOk.some h.2 a ha
 |v::vs,.ol ds::ps,A,h,a,ha=>by
  obtain⟨l,us,A',rfl,rfl,hl,hr,q⟩:=h
  rcases Zaq.mp ha with e |e
  ·subst e;exact⟨us,hl⟩
  ·exact q.some a e
 |[],_::_,_,h,_,_=>False.elim h
 |_::_,[],_,h,_,_=>False.elim h
theorem PtsOk.rp(s:Same F H):∀{vs:List V} {ps:List Pt} {A:List Addr},PtsOk K F H vs ps A→RpA K H vs (ps.map Pt.val)
 |[],[],A,_=>.nil
 |v::vs,.fl d::ps,A,h=>.cons (h.1.same s) (PtsOk.rp s h.2)
 |v::vs,.ol ds::ps,A,h=>by
  obtain⟨l,us,A',rfl,rfl,hl,hr,q⟩:=h
  exact .cons (.lst (SqL.of hl) (hr.same s)) (q.rp s)
 |[],_::_,_,h=>False.elim h
 |_::_,[],_,h=>False.elim h
theorem KvOk.same(s:Same F F'){us:List (e8×V)}{kvs:List (e8×PyData)}(h:KvOk K F us kvs):KvOk K F' us kvs:=by
 induction h with
 |nil=>exact .nil
 |cons a _ b=>exact .cons ⟨a.1,a.2.same s⟩ b
theorem SlOk.stay{o:Option V}{s:Sl}{A:List Addr}(hF:Same F F')(e:∀b∈A,H' b=H b)(hb:s.isBr=true→Same H H')(h:SlOk K F H σ o s A):SlOk K F' H' σ o s A:=by
 cases s with
 |no=>exact h
 |sh d=>obtain⟨rfl,v,rfl,r⟩:=h;exact⟨rfl,v,rfl,r.same hF⟩
 |ow ds=>obtain⟨l,vs,rfl,rfl,hl,r⟩:=h;exact⟨l,vs,rfl,rfl,(e l (by simp)).trans hl,r.same hF⟩
 |od kvs=>obtain⟨l,us,A',rfl,rfl,hl,r⟩:=h;exact⟨l,us,A',rfl,rfl,(e l (by simp)).trans hl,r.stay hF fun b hb=>e b (g6 _ hb)⟩
 |oi kvs=>obtain⟨l,us,rfl,rfl,hl,r⟩:=h;exact⟨l,us,rfl,rfl,(e l (by simp)).trans hl,r.same hF⟩
 |tx ps=>obtain⟨t,vs,rfl,ht,r⟩:=h;exact⟨t,vs,rfl,hF _ _ ht,r.stay hF e⟩
 |al i=>exact h
 |br d=>obtain⟨rfl,v,rfl,r⟩:=h;exact⟨rfl,v,rfl,r.same (hb rfl)⟩
theorem SlOk.mut{o:Option V}{s:Sl}{A:List Addr}(h:SlOk K F H σ o s A):∀a∈A,(∃us,H a=some (.lst us))∨∃us,H a=some (.dK us):=by
 cases s with
 |no=>intro a ha;rw[show A=[]from h]at ha;cases ha
 |sh d=>obtain⟨rfl,_⟩:=h;intro a ha;cases ha
 |ow ds=>obtain⟨l,vs,rfl,rfl,hl,r⟩:=h;intro a ha;rw[Zaf.mp ha];exact .inl ⟨_,hl⟩
 |od kvs=>
  obtain⟨l,vs,A',rfl,rfl,hl,r⟩:=h
  intro a ha
  rcases Zaq.mp ha with z |z
  ·rw[z];exact .inr ⟨_,hl⟩
  ·exact .inl (r.some a z)
 |oi kvs=>obtain⟨l,us,rfl,rfl,hl,r⟩:=h;intro a ha;rw[Zaf.mp ha];exact .inr ⟨_,hl⟩
 |tx ps=>obtain⟨t,vs,rfl,ht,r⟩:=h;exact fun a ha=>.inl (r.some a ha)
 |al i=>obtain⟨rfl,_⟩:=h;intro a ha;cases ha
 |br d=>obtain⟨rfl,_⟩:=h;intro a ha;cases ha
end
inductive SAll (P:Option V→Sl→List Addr→Prop):List (Option V)→List Sl→List Addr→Prop
 |nil:SAll P [] [] []
 |cons {o:Option V} {s:Sl} {A:List Addr} {os:List (Option V)} {ss:List Sl} {B:List Addr}:P o s A→SAll P os ss B→SAll P (o::os) (s::ss) (A++B)
section
variable {P P':Option V→Sl→List Addr→Prop}
theorem SAll.len{os:List (Option V)}{ss:List Sl}{A:List Addr}(h:SAll P os ss A):os.length=ss.length:=by
 induction h with
 |nil=>rfl
 |cons _ _ b=>exact congrArg (· +1) b
theorem SAll.mono{os:List (Option V)}{ss:List Sl}{A:List Addr}(h:SAll P os ss A):(∀o s B,s∈ss→(∀b∈B,b∈A)→P o s B→P' o s B)→SAll P' os ss A:=by
 induction h with
 |nil=>exact fun _=>.nil
 |cons h _ r=>exact fun f=>.cons (f _ _ _ (ir ..) (fun b hb=>List.mem_append_left _ hb) h) (r fun o s B hs hB q=>f o s B (g6 _ hs) (fun b hb=>lD _ (hB b hb)) q)
theorem SAll.all{R:Addr→Prop}(hR:∀o s B,P o s B→∀b∈B,R b){os:List (Option V)}{ss:List Sl}{A:List Addr}(h:SAll P os ss A):∀a∈A,R a:=by
 induction h with
 |nil=>exact fun _ ha=>nomatch ha
 |cons h _ r=>exact fun a ha=>(Zan.mp ha).elim (hR _ _ _ h a) (r a)
theorem SAll.at:∀{os:List (Option V)} {ss:List Sl} {A:List Addr} {k:Nat} {s:Sl},SAll P os ss A→ss[k]? =some s→
  ∃o A0 A1 A2,A=A0++(A1++A2)∧os[k]? =some o∧P o s A1∧∀(P':Option V→Sl→List Addr→Prop) (o':Option V) (s':Sl) (A1':List Addr),P' o' s' A1'→
   (∀o s B,s∈ss→(∀b∈B,b∈A0∨b∈A2)→P o s B→P' o s B)→SAll P' (os.set k o') (ss.set k s') (A0++(A1'++A2))
 |_,_,_,_,_,.nil,e=>by simp at e
 |_,_,_,0,s,.cons (o:=o) (A:=A) (B:=B) h r,e=>by
  simp at e;subst e
  refine⟨o,[],A,B,by simp,rfl,h,fun P' o' s' A1' h' f=>?_⟩
  have z:SAll P' _ _ (A1'++B):=.cons h' (r.mono (P':=P') fun o s B hs hB q=>f o s B (g6 _ hs) (fun b hb=>.inr (hB b hb)) q)
  exact z
 |_,_,_,k+1,s,.cons (o:=o) (A:=A) (B:=B) h r,e=>by
  obtain⟨o2,A0,A1,A2,eA,eo,hp,f⟩:=r.at (k:=k) (s:=s) (by simpa using e)
  subst eA
  refine⟨o2,A++A0,A1,A2,by simp,by simpa using eo,hp,fun P' o' s' A1' h' g=>?_⟩
  have z:=f P' o' s' A1' h' fun o s B hs hB q=>g o s B (g6 _ hs) (fun b hb=>(hB b hb).imp (fun x=>lD _ x) id) q
  rw[ou]
  exact .cons (g _ _ _ (ir ..) (fun b hb=>.inl (List.mem_append_left _ hb)) h) z
end
end PL
namespace PL
open PySem L2 Nh
abbrev Sg:=L2.St
structure FrF (K:Frag) (B F:Hp) (A:List Addr) (σ:Sg) (H:Hp) (E:List Sl) (xs:List V) (Xs:List Sl):Prop where
 bf:Same B F
 fh:Same F H
 tf:Same (tups H) F
 sl:SAll (SlOk K F H σ) (xs.map some++σ) (Xs++E) A
 nd:A.Nodup
 fr:∀a∈A,F a=none
 len:xs.length=Xs.length
 pl:∀s∈E,s.isAl=false
def Frm(K:Frag)(B:Hp)(σ:Sg)(H:Hp)(E:List Sl)(xs:List V)(Xs:List Sl):Prop:=∃F A,FrF K B F A σ H E xs Xs
def Sl.val:Sl→Option PyData
 |.sh d=>some d
 |.ow ds=>some (.list ds)
 |.tx ps=>some (.tuple (ps.map Pt.val))
 |.br d=>some d
 |_=>none
def look(E:List Sl):Sl→Option PyData
 |.al i=>(E[i]?).bind Sl.val
 |s=>s.val
def cE:Sl→Bool
 |.br _=>true
 |.tx _=>true
 |_=>false
def eL(E:List Sl):Sl→Bool
 |.al i=>(E[i]?).any cE
 |s=>cE s
def RpF(K:Frag)(F H:Hp)(v:V):PyData→Prop
 |.list ds=>∃a vs,v=.ref a∧SqL K H a vs∧RpA K F vs ds
 |d=>Rp K F v d
def over(F H:Hp)(A:List Addr):Hp:=fun b=>if b∈A then H b else F b
theorem qv{F H:Hp}{A:List Addr}{b:Addr}(h:b∈A):over F H A b=H b:=if_pos h
theorem nu{F H:Hp}{A:List Addr}{b:Addr}(h:b∉A):over F H A b=F b:=if_neg h
section
variable {K:Frag} {B F:Hp} {A:List Addr} {σ:Sg} {H:Hp} {E:List Sl} {xs:List V} {Xs:List Sl} {v:V} {s:Sl} {d:PyData}
theorem RpF.of(h:Rp K F v d)(s:Same F H):RpF K F H v d:=by
 cases h with
 |lst h r=>exact⟨_,_,rfl,s.seq h,r⟩
 |non=>exact .non
 |bl b=>exact .bl b
 |int i=>exact .int i
 |str x=>exact .str x
 |tup h r=>exact .tup h r
 |dct h r=>exact .dct h r
theorem SlOk.val{o:Option V}{A1:List Addr}(h:SlOk K F H σ o s A1)(hF:Same F H)(e:s.val=some d):∃v,o=some v∧Rp K H v d∧(cE s=false→RpF K F H v d):=by
 cases s with
 |no=>cases e
 |sh d'=>
  obtain⟨rfl,v,rfl,r⟩:=h
  cases e
  exact⟨v,rfl,r.same hF,fun _=>RpF.of r hF⟩
 |ow ds=>
  obtain⟨l,vs,rfl,rfl,hl,r⟩:=h
  cases e
  exact⟨_,rfl,.lst (SqL.of hl) (r.same hF),fun _=>⟨_,_,rfl,SqL.of hl,r⟩⟩
 |od kvs=>cases e
 |oi kvs=>cases e
 |tx ps=>
  obtain⟨t,vs,rfl,ht,r⟩:=h
  cases e
  exact⟨_,rfl,.tup (SqT.of (hF _ _ ht)) (r.rp hF),fun z=>by cases z⟩
 |al i=>cases e
 |br d'=>
  obtain⟨rfl,v,rfl,r⟩:=h
  cases e
  exact⟨v,rfl,r,fun z=>by cases z⟩
theorem FrF.slen(h:FrF K B F A σ H E xs Xs):σ.length=E.length:=by
 have e:=h.sl.len
 have:=h.len
 simp only[vn,eQ]at e
 omega
theorem FrF.var{i:Nat}(h:FrF K B F A σ H E xs Xs)(e:E[i]? =some s):∃o A1,σ[i]? =some o∧SlOk K F H σ o s A1:=by
 obtain⟨o,A0,A1,A2,eA,eo,hp,_⟩:=h.sl.at (k:=Xs.length+i) (s:=s) (by rw[zR (by omega)];simpa using e)
 rw[zR (by rw[eQ,h.len];omega),eQ,h.len,xF]at eo
 exact⟨o,A1,eo,hp⟩
theorem FrF.ext{k:Nat}(h:FrF K B F A σ H E xs Xs)(e:Xs[k]? =some s):∃v A1,xs[k]? =some v∧SlOk K F H σ (some v) s A1:=by
 have hk:k < Xs.length:=(List.getElem?_eq_some_iff.mp e).1
 obtain⟨o,A0,A1,A2,eA,eo,hp,_⟩:=h.sl.at (k:=k) (s:=s) (by rw[List.getElem?_append_left hk];exact e)
 rw[List.getElem?_append_left (by rw[eQ,h.len];omega),we]at eo
 cases q:xs[k]? with
 |none=>rw[q]at eo;cases eo
 |some v=>rw[q]at eo;cases eo;exact⟨v,A1,rfl,hp⟩
theorem FrF.look{k:Nat}(h:FrF K B F A σ H E xs Xs)(e:Xs[k]? =some s)(q:look E s=some d):∃v,xs[k]? =some v∧Rp K H v d∧(eL E s=false→RpF K F H v d):=by
 obtain⟨v,A1,ev,hs⟩:=h.ext e
 cases s with
 |al i=>
  obtain⟨rfl,w,ew,hw⟩:=hs
  cases ew
  cases ei:E[i]? with
  |none=>simp[PL.look,ei]at q
  |some t=>
   obtain⟨o,A2,eo,ht⟩:=h.var ei
   rw[hw]at eo
   cases eo
   obtain⟨v',e',r,c⟩:=ht.val h.fh (d:=d) (by simpa[PL.look,ei]using q)
   cases e'
   exact⟨v,ev,r,fun z=>c (by simpa[eL,ei]using z)⟩
 |no=>cases q
 |od kvs=>cases q
 |oi kvs=>cases q
 |sh d'=>obtain⟨v',e',r,c⟩:=hs.val h.fh q;cases e';exact⟨v,ev,r,c⟩
 |ow ds=>obtain⟨v',e',r,c⟩:=hs.val h.fh q;cases e';exact⟨v,ev,r,c⟩
 |tx ps=>obtain⟨v',e',r,c⟩:=hs.val h.fh q;cases e';exact⟨v,ev,r,c⟩
 |br d'=>obtain⟨v',e',r,c⟩:=hs.val h.fh q;cases e';exact⟨v,ev,r,c⟩
theorem FrF.look0(h:FrF K B F A σ H E (v::xs) (s::Xs))(q:PL.look E s=some d):Rp K H v d∧(eL E s=false→RpF K F H v d):=by
 obtain⟨v',e,r⟩:=h.look (k:=0) rfl q
 cases e
 exact r
theorem FrF.look1{w:V}{t:Sl}(h:FrF K B F A σ H E (w::v::xs) (t::s::Xs))(q:PL.look E s=some d):Rp K H v d∧(eL E s=false→RpF K F H v d):=by
 obtain⟨v',e,r⟩:=h.look (k:=1) rfl q
 cases e
 exact r
theorem FrF.mutA(h:FrF K B F A σ H E xs Xs):∀a∈A,(∃us,H a=some (.lst us))∨∃us,H a=some (.dK us):=
 SAll.all (R:=fun a=>(∃us,H a=some (.lst us))∨∃us,H a=some (.dK us)) (fun _ _ _ q=>q.mut) h.sl
theorem FrF.newA{p:Addr}(h:FrF K B F A σ H E xs Xs)(hp:H p=none):p∉A:=fun hm=>by
 rcases h.mutA p hm with⟨_,z⟩ |⟨_,z⟩ <;> rw[hp]at z <;> cases z
theorem FrF.cold{u:V}{e:PyData}(h:FrF K B F A σ H E xs Xs)(r:Rp K H u e)(f:cS e=true):Rp K F u e:=(r.cold f).same h.tf
theorem FrF.coldA{us:List V}{es:List PyData}(h:FrF K B F A σ H E xs Xs)(r:RpA K H us es)(f:bH es=true):RpA K F us es:=(r.cold f).same h.tf
theorem FrF.push(h:FrF K B F A σ H E xs Xs)(q:SlOk K F H σ (some v) s []):FrF K B F A σ H E (v::xs) (s::Xs):=
 ⟨h.bf,h.fh,h.tf,.cons (A:=[]) q h.sl,h.nd,h.fr,by simp[h.len],h.pl⟩
theorem FrF.pop(h:FrF K B F A σ H E (v::xs) (s::Xs)):∃A',FrF K B F A' σ H E xs Xs:=by
 obtain⟨bf,fh,tf,sl,nd,fr,len,pl⟩:=h
 generalize hT:List.map some (v::xs)++σ=T at sl
 generalize hS:(s::Xs)++E=S at sl
 cases sl with
 |nil=>cases hS
 |cons q r=>
  injection hT with _ hT
  injection hS with _ hS
  subst hT hS
  exact⟨_,bf,fh,tf,r,(Zbh.mp nd).2.1,fun a ha=>fr a (lD _ ha),by simpa using len,pl⟩
theorem FrF.grow{H':Hp}(h:FrF K B F A σ H E xs Xs)(g:Same H H'):FrF K B (fun b=>if b∈A then none else H' b) A σ H' E xs Xs:=by
 have nF:∀b o,F b=some o→b∉A:=fun b o e hb=>by rw[h.fr b hb]at e;cases e
 have FF:Same F (fun b=>if b∈A then none else H' b):=fun b o e=>by
  show(if b∈A then none else H' b)=some o
  rw[if_neg (nF b o e)]
  exact g _ _ (h.fh _ _ e)
 have hA:∀b∈A,H' b=H b:=fun b hb=>by
  rcases h.mutA b hb with⟨_,z⟩ |⟨_,z⟩ <;> rw[z,g _ _ z]
 refine⟨h.bf.trans FF,fun b o e=>?_,fun b o e=>?_,h.sl.mono fun o s C _ hC q=>q.stay FF (fun b hb=>hA b (hC b hb)) fun _=>g,h.nd,fun a ha=>if_pos ha,h.len,h.pl⟩
 ·by_cases hb:b∈A
  ·rw[if_pos hb]at e;cases e
  ·rw[if_neg hb]at e;exact e
 ·obtain⟨e1,e2⟩:=Option.filter_eq_some_iff.mp e
  show(if b∈A then none else H' b)=some o
  by_cases hb:b∈A
  ·rw[hA b hb]at e1
   rcases h.mutA b hb with⟨_,z⟩ |⟨_,z⟩ <;> rw[z]at e1 <;> cases e1 <;> cases e2
  ·rw[if_neg hb];exact e1
theorem FrF.newl{p:Addr}{vs:List V}{ds:List PyData}(h:FrF K B F A σ H E xs Xs)(r:RpA K F vs ds)(hp:H p=none):FrF K B F (p::A) σ (upd H p (.lst vs)) E (.ref p::xs) (.ow ds::Xs):=by
 have g:Same H (upd H p (.lst vs)):=iy hp _
 have nA:=h.newA hp
 refine⟨h.bf,h.fh.trans g,fun b o e=>?_,.cons (A:=[p]) ⟨p,vs,rfl,rfl,c_,r⟩ (h.sl.mono fun o s C _ hC q=>q.stay (Same.refl _) (fun b hb=>aX fun z=>nA (z▸hC b hb)) fun _=>g),List.nodup_cons.mpr ⟨nA,h.nd⟩,fun a ha=>?_,by simp[h.len],h.pl⟩
 ·obtain⟨e1,e2⟩:=Option.filter_eq_some_iff.mp e
  by_cases hb:b=p
  ·subst hb;rw[c_]at e1;cases e1;cases e2
  ·rw[aX hb]at e1;exact h.tf b o (kG e1 e2)
 ·rcases Zaq.mp ha with z |z
  ·subst z;exact h.fh.free hp
  ·exact h.fr a z
theorem FrF.newt{p:Addr}{vs:List V}{ds:List PyData}(h:FrF K B F A σ H E xs Xs)(r:RpA K F vs ds)(hp:H p=none):FrF K B (upd F p (.tup vs)) A σ (upd H p (.tup vs)) E (.ref p::xs) (.sh (.tuple ds)::Xs):=by
 have g:Same H (upd H p (.tup vs)):=iy hp _
 have nA:=h.newA hp
 have gF:Same F (upd F p (.tup vs)):=iy (h.fh.free hp) _
 refine⟨h.bf.trans gF,fun b o e=>?_,fun b o e=>?_,.cons (A:=[]) ⟨rfl,_,rfl,.tup (.inl (.inl c_)) (r.same gF)⟩ (h.sl.mono fun o s C _ hC q=>q.stay gF (fun b hb=>aX fun z=>nA (z▸hC b hb)) fun _=>g),h.nd,fun a ha=>?_,by simp[h.len],h.pl⟩
 ·by_cases hb:b=p
  ·subst hb;rw[c_]at e ⊢;exact e
  ·rw[aX hb]at e ⊢;exact h.fh _ _ e
 ·obtain⟨e1,e2⟩:=Option.filter_eq_some_iff.mp e
  by_cases hb:b=p
  ·subst hb;rw[c_]at e1 ⊢;exact e1
  ·rw[aX hb]at e1 ⊢;exact h.tf b o (kG e1 e2)
 ·have ne:a≠p:=fun z=>nA (z▸ha)
  rw[aX ne];exact h.fr a ha
theorem FrF.mut{i:Nat}{ds:List PyData}(h:FrF K B F A σ H E xs Xs)(e:E[i]? =some (.ow ds))(c:∀s∈Xs,s.isBr=false):
  ∃l vs,σ[i]? =some (some (.ref l))∧H l=some (.lst vs)∧RpA K F vs ds∧∀vs' ds',RpA K F vs' ds'→FrF K B F A σ (upd H l (.lst vs')) (E.set i (.ow ds')) xs Xs:=by
 obtain⟨o,A0,A1,A2,eA,eo,hp,put⟩:=h.sl.at (k:=Xs.length+i) (s:=.ow ds) (by rw[zR (by omega)];simpa using e)
 rw[zR (by rw[eQ,h.len];omega),eQ,h.len,xF]at eo
 obtain⟨l,vs,rfl,rfl,hl,r⟩:=hp
 refine⟨l,vs,eo,hl,r,fun vs' ds' r'=>?_⟩
 have hlA:l∈A:=by rw[eA];simp
 have nl:∀b,b∈A0∨b∈A2→b≠l:=fun b hb z=>by
  subst z
  have nd:=h.nd
  rw[eA]at nd
  rcases hb with hb |hb
  ·exact(Zbh.mp nd).2.2 b hb b (by simp) rfl
  ·exact(Zbh.mp (Zbh.mp nd).2.1).2.2 b (by simp) b hb rfl
 have lF:F l=none:=h.fr l hlA
 have z:=put (SlOk K F (upd H l (.lst vs')) σ) (some (.ref l)) (.ow ds') [l] ⟨l,vs',rfl,rfl,c_,r'⟩ fun o s C hs hC q=>q.stay (Same.refl _) (fun b hb=>aX (nl b (hC b hb))) fun z=>by
  rcases Zan.mp hs with hs |hs
  ·rw[c s hs]at z;cases z
  ·have:=h.pl s hs
   cases s <;> simp[Sl.isAl,Sl.isBr]at this z
 have e3:(Xs++E).set (Xs.length+i) (.ow ds')=Xs++E.set i (.ow ds'):=by
  rw[List.set_append_right _ _ (by omega),xF]
 have e2:(List.map some xs++σ).set (Xs.length+i) (some (V.ref l))=List.map some xs++σ:=by
  rw[←h.len,List.set_append_right _ _ (by rw[eQ];omega),eQ,xF]
  congr 1
  exact List.ext_getElem? fun j=>by
   by_cases hj:i=j
   ·subst hj
    rw[List.getElem?_set_self',eo];rfl
   ·rw[List.getElem?_set_ne hj]
 rw[e2,e3,←eA]at z
 refine⟨h.bf,fun b o q=>?_,?_,z,h.nd,h.fr,h.len,fun s hs=>?_⟩
 ·rw[aX (fun z=>by rw[z,lF]at q;cases q)]
  exact h.fh _ _ q
 ·rw[r_ hl];exact h.tf
 ·rcases List.mem_or_eq_of_mem_set hs with hs |hs
  ·exact h.pl s hs
  ·subst hs;rfl
theorem FrF.frzAt{k:Nat}(h:FrF K B F A σ H E xs Xs)(e:(Xs++E)[k]? =some s)(q:s.val=some d)(c:s.isAl=false):
  ∃F' A' v,(xs.map some++σ)[k]? =some (some v)∧Rp K F' v d∧Same B F'∧Same F' H∧Same (tups H) F'∧SAll (SlOk K F' H σ) (xs.map some++σ) ((Xs++E).set k (.sh d)) A'∧A'.Nodup∧∀a∈A',F' a=none:=by
 obtain⟨o,A0,A1,A2,eA,eo,hp,put⟩:=h.sl.at e
 have nd:=h.nd
 rw[eA]at nd
 have nA1:∀b o,F b=some o→b∉A1:=fun b o e hb=>by
  have:=h.fr b (by rw[eA];simp[hb])
  rw[this]at e;cases e
 have FF:Same F (over F H A1):=fun b o e=>by rw[nu (nA1 b o e)];exact e
 obtain⟨v,rfl,r⟩:∃v,o=some v∧Rp K (over F H A1) v d:=by
  cases s with
  |no=>cases q
  |od kvs=>cases q
  |oi kvs=>cases q
  |al i=>cases c
  |br d'=>cases c
  |sh d'=>
   obtain⟨rfl,v,rfl,r⟩:=hp
   cases q
   exact⟨v,rfl,r.same FF⟩
  |ow ds=>
   obtain⟨l,vs,rfl,rfl,hl,r⟩:=hp
   cases q
   exact⟨_,rfl,.lst (SqL.of ((qv (by simp)).trans hl)) (r.same FF)⟩
  |tx ps=>
   obtain⟨t,vs,rfl,ht,r⟩:=hp
   cases q
   refine⟨_,rfl,.tup (SqT.of (FF _ _ ht)) ?_⟩
   have r':PtsOk K (over F H A1) (over F H A1) vs ps A1:=r.stay FF fun b hb=>qv hb
   exact r'.rp (Same.refl _)
 have e2:(List.map some xs++σ).set k (some v)=List.map some xs++σ:=List.ext_getElem? fun j=>by
  by_cases hj:k=j
  ·subst hj
   rw[List.getElem?_set_self',eo];rfl
  ·rw[List.getElem?_set_ne hj]
 have z:=put (SlOk K (over F H A1) H σ) (some v) (.sh d) [] ⟨rfl,v,rfl,r⟩ fun o s C _ hC q=>q.stay FF (fun b _=>rfl) fun _=>Same.refl _
 rw[e2]at z
 refine⟨over F H A1,A0++A2,v,eo,r,h.bf.trans FF,fun b o e=>?_,fun b o e=>FF _ _ (h.tf _ _ e),by simpa using z,?_,fun a ha=>?_⟩
 ·by_cases hb:b∈A1
  ·rw[qv hb]at e;exact e
  ·rw[nu hb]at e;exact h.fh _ _ e
 ·exact List.Nodup.sublist (List.Sublist.append (List.Sublist.refl _) (List.sublist_append_right _ _)) nd
 ·have hn:a∉A1:=fun hm=>by
   rcases Zan.mp ha with z |z
   ·exact(Zbh.mp nd).2.2 a z a (by simp[hm]) rfl
   ·exact(Zbh.mp (Zbh.mp nd).2.1).2.2 a hm a z rfl
  rw[nu hn]
  exact h.fr a (by rw[eA];rcases Zan.mp ha with z |z <;> simp[z])
end
def frz(E:List Sl):Sl→Option (PyData×List Sl)
 |.sh d=>some (d,E)
 |.ow ds=>some (.list ds,E)
 |.tx ps=>some (.tuple (ps.map Pt.val),E)
 |.br d=>if cS d then some (d,E)else none
 |.al i=>match E[i]? with
  |some (.sh d)=>some (d,E)
  |some (.ow ds)=>some (.list ds,E.set i (.sh (.list ds)))
  |some (.tx ps)=>some (.tuple (ps.map Pt.val),E.set i (.sh (.tuple (ps.map Pt.val))))
  |_=>none
 |_=>none
section
variable {K:Frag} {B F:Hp} {A:List Addr} {σ:Sg} {H:Hp} {E E':List Sl} {xs:List V} {Xs:List Sl} {v:V} {s:Sl} {d:PyData}
theorem FrF.frzVar{i:Nat}(h:FrF K B F A σ H E xs Xs)(e:E[i]? =some s)(q:s.val=some d):∃F' A' v,σ[i]? =some (some v)∧Rp K F' v d∧FrF K B F' A' σ H (E.set i (.sh d)) xs Xs:=by
 obtain⟨F',A',v,ev,r,b1,b2,b3,sl,nd,fr⟩:=h.frzAt (k:=Xs.length+i) (by rw[zR (by omega)];simpa using e) q (h.pl s (List.mem_of_getElem? e))
 rw[zR (by rw[eQ,h.len];omega),eQ,h.len,xF]at ev
 have e3:(Xs++E).set (Xs.length+i) (.sh d)=Xs++E.set i (.sh d):=by
  rw[List.set_append_right _ _ (by omega),xF]
 rw[e3]at sl
 refine⟨F',A',v,ev,r,b1,b2,b3,sl,nd,fr,h.len,fun s hs=>?_⟩
 rcases List.mem_or_eq_of_mem_set hs with hs |hs
 ·exact h.pl s hs
 ·subst hs;rfl
theorem FrF.frz0(h:FrF K B F A σ H E (v::xs) (s::Xs))(q:PL.frz E s=some (d,E')):∃F' A',FrF K B F' A' σ H E' (v::xs) (.sh d::Xs):=by
 have key:s.val=some d→s.isAl=false→E=E'→∃F' A',FrF K B F' A' σ H E' (v::xs) (.sh d::Xs):=fun q' c e=>by
  subst e
  obtain⟨F',A',v',ev,r,b1,b2,b3,sl,nd,fr⟩:=h.frzAt (k:=0) rfl q' c
  exact⟨F',A',b1,b2,b3,sl,nd,fr,by simpa using h.len,h.pl⟩
 have al:∀i t,s=.al i→E[i]? =some t→t.val=some d→E'=E.set i (.sh d)→∃F' A',FrF K B F' A' σ H E' (v::xs) (.sh d::Xs):=fun i t es ei qt eE=>by
  subst es eE
  obtain⟨v',A1,ev,hs⟩:=h.ext (k:=0) rfl
  cases ev
  obtain⟨rfl,w,ew,hw⟩:=hs
  cases ew
  obtain⟨F',A',w,ew,r,h'⟩:=h.frzVar ei qt
  rw[hw]at ew
  cases ew
  obtain⟨A2,h2⟩:=h'.pop
  exact⟨F',A2,h2.push ⟨rfl,_,rfl,r⟩⟩
 cases s with
 |no=>cases q
 |od kvs=>cases q
 |oi kvs=>cases q
 |sh d'=>cases q;exact key rfl rfl rfl
 |ow ds=>cases q;exact key rfl rfl rfl
 |tx ps=>cases q;exact key rfl rfl rfl
 |br d'=>
  simp only[PL.frz]at q
  split at q
  ·rename_i hf
   cases q
   obtain⟨r,_⟩:=h.look0 (d:=d) rfl
   obtain⟨A2,h2⟩:=h.pop
   exact⟨F,A2,h2.push ⟨rfl,_,rfl,h.cold r hf⟩⟩
  ·cases q
 |al i=>
  simp only[PL.frz]at q
  split at q
  ·rename_i d' ei
   cases q
   refine al i _ rfl ei rfl ?_
   exact List.ext_getElem? fun j=>by
    by_cases hj:i=j
    ·subst hj;rw[List.getElem?_set_self',ei];rfl
    ·rw[List.getElem?_set_ne hj]
  ·rename_i ds ei
   cases q
   exact al i _ rfl ei rfl rfl
  ·rename_i ps ei
   cases q
   exact al i _ rfl ei rfl rfl
  ·cases q
theorem FrF.store{i:Nat}(h:FrF K B F A σ H E (v::xs) (s::Xs))(c:s.isAl=false)(cx:∀s∈Xs,s.isAl=false)(hi:i < E.length):∃A',FrF K B F A' (σ.set i (some v)) H (E.set i s) xs Xs:=by
 have hlen:=h.len
 have hsl:=h.slen
 obtain⟨bf,fh,tf,sl,nd,fr,len,pl⟩:=h
 generalize hT:List.map some (v::xs)++σ=T at sl
 generalize hS:(s::Xs)++E=S at sl
 cases sl with
 |nil=>cases hS
 |cons q r=>
  rename_i A1 _ _ A2
  injection hT with h1 hT
  injection hS with h2 hS
  subst h1 h2 hT hS
  have len':xs.length=Xs.length:=by simpa using len
  have r:SAll (SlOk K F H σ) (List.map some xs++σ) (Xs++E) A2:=r
  obtain⟨t,et⟩:∃t,E[i]? =some t:=⟨E[i],wc hi⟩
  obtain⟨o,C0,C1,C2,eA,eo,hp,put⟩:=r.at (k:=Xs.length+i) (s:=t) (by rw[zR (by omega)];simpa using et)
  have all:∀s'∈Xs++E,s'.isAl=false:=fun s' hs=>(Zan.mp hs).elim (cx s') (pl s')
  have chg:∀(o:Option V) (s':Sl) (C:List Addr),s'.isAl=false→SlOk K F H σ o s' C→SlOk K F H (σ.set i (some v)) o s' C:=fun o s' C hc z=>by
   cases s' <;> first |exact z |cases hc
  have z:=put (SlOk K F H (σ.set i (some v))) (some v) s A1 (chg _ _ _ c q) fun o s' C hs _ z=>chg o s' C (all s' hs) z
  have e3:(Xs++E).set (Xs.length+i) s=Xs++E.set i s:=by
   rw[List.set_append_right _ _ (by omega),xF]
  have e2:(List.map some xs++σ).set (Xs.length+i) (some v)=List.map some xs++σ.set i (some v):=by
   rw[←len',List.set_append_right _ _ (by rw[eQ];omega),eQ,xF]
  rw[e2,e3]at z
  refine⟨_,bf,fh,tf,z,?_,fun a ha=>fr a ?_,len',fun s' hs=>?_⟩
  ·rw[eA]at nd
   have p:(C0++(A1++C2)).Perm (A1++(C0++C2)):=by
    rw[←ou,←ou]
    exact List.Perm.append_right _ List.perm_append_comm
   refine p.nodup_iff.mpr (List.Nodup.sublist ?_ nd)
   exact List.Sublist.append (List.Sublist.refl _) (List.Sublist.append (List.Sublist.refl _) (List.sublist_append_right _ _))
  ·rw[eA]
   simp only[Zan]at ha ⊢
   rcases ha with z |z |z
   ·exact .inr (.inl z)
   ·exact .inl z
   ·exact .inr (.inr (.inr z))
  ·rcases List.mem_or_eq_of_mem_set hs with hs |hs
   ·exact pl s' hs
   ·subst hs;exact c
end
end PL
namespace PL
open PySem L2 Nh
abbrev bL:=List Sl→Option (Sl×List Sl)
abbrev iu:=List Sl→Option (Bool×List Sl)
abbrev qw:=List Sl→Option (List Sl×List Sl)
abbrev lB:=List Sl→Option (List PyData×List Sl)
inductive Fl where
 |nx |bk |ct |rt (r:Sl)
abbrev dN:=List Sl→Option (List Sl×Fl)
abbrev Calm(Xs:List Sl):Prop:=∀s∈Xs,s.isBr=false
abbrev Still(Xs:List Sl):Prop:=∀s∈Xs,s.isAl=false
theorem Still.calm{Xs:List Sl}(h:Still Xs):Calm Xs:=fun s hs=>by
 have:=h s hs
 cases s <;> simp[Sl.isAl,Sl.isBr]at this ⊢
theorem Still.nil{Xs:List Sl}(h:Xs=[]):Still Xs:=fun s hs=>by subst h;cases hs
theorem Calm.nil{Xs:List Sl}(h:Xs=[]):Calm Xs:=(Still.nil h).calm
theorem Calm.cons{Xs:List Sl}{s:Sl}(h:Calm Xs)(hs:s.isBr=false):Calm (s::Xs):=fun t ht=>(Zaq.mp ht).elim (fun e=>e▸hs) (h t)
def rd(K:Frag)(m:Bool)(f:bL):TE:=fun σ H Q=>∃B E xs Xs r E',Frm K B σ H E xs Xs∧(m=true→Calm Xs)∧f E=some (r,E')∧∀v H',Frm K B σ H' E' (v::xs) (r::Xs)→Q v H'
def rt(K:Frag)(m:Bool)(f:iu):TT:=fun σ H Q=>∃B E xs Xs b E',Frm K B σ H E xs Xs∧(m=true→Calm Xs)∧f E=some (b,E')∧∀H',Frm K B σ H' E' xs Xs→Q b H'
def ra(K:Frag)(m:Bool)(f:qw):TA:=fun σ H Q=>∃B E xs Xs rs E',Frm K B σ H E xs Xs∧(m=true→Calm Xs)∧f E=some (rs,E')∧∀vs H',vs.length=rs.length→Frm K B σ H' E' (vs.reverse++xs) (rs.reverse++Xs)→Q vs H'
def Gj(K:Frag)(m:Bool)(f:lB):TA:=fun σ H Q=>∃B E xs Xs ds E',Frm K B σ H E xs Xs∧(m=true→Calm Xs)∧f E=some (ds,E')∧∀vs H',vs.length=ds.length→Frm K B σ H' E' (vs.reverse++xs) (ds.reverse.map .sh++Xs)→Q vs H'
def rs(K:Frag)(g:dN):TS:=fun D σ H=>∃B E xs Xs E' fl,Frm K B σ H E xs Xs∧Xs=[]∧g E=some (E',fl)∧match fl with
 |.nx=>∀σ' H',Frm K B σ' H' E' xs Xs→D.nx σ' H'
 |.bk=>∀σ' H',Frm K B σ' H' E' xs Xs→D.bk σ' H'
 |.ct=>∀σ' H',Frm K B σ' H' E' xs Xs→D.ct σ' H'
 |.rt r=>∀σ' v H',Frm K B σ' H' E' (v::xs) (r::Xs)→D.rt v H'
def EX(X:Cx)(e:Expr)(m:Bool)(f:bL):Prop:=PE X e (rd X.K m f)
def TX(X:Cx)(e:Expr)(m:Bool)(f:iu):Prop:=PT X e (rt X.K m f)
def WX(X:Cx)(e:Expr)(m:Bool)(f:iu):Prop:=PW X e (rt X.K m f)
def AX(X:Cx)(es:List Expr)(m:Bool)(f:qw):Prop:=PA X es (ra X.K m f)
def DX(X:Cx)(es:List Expr)(m:Bool)(f:lB):Prop:=PA X es (Gj X.K m f)
def SX(X:Cx)(s:Stmt)(g:dN):Prop:=PS X s (rs X.K g)
def wC(X:Cx)(s:List Stmt)(g:dN):Prop:=PSs X s (rs X.K g)
section
variable {X:Cx}
theorem cf{e:Expr}{t t':TE}(h:PE X e t)(k:∀σ H Q,t' σ H Q→t σ H Q):PE X e t':=fun pins s σ H Q I q=>h pins s σ H Q I (k σ H Q q)
theorem qx{e:Expr}{t t':TT}(h:PT X e t)(k:∀σ H Q,t' σ H Q→t σ H Q):PT X e t':=fun pins s σ H Q I q=>h pins s σ H Q I (k σ H Q q)
theorem yd{e:Expr}{t t':TT}(h:PW X e t)(k:∀σ H Q,t' σ H Q→t σ H Q):PW X e t':=fun whole pins s σ H Q I q=>h whole pins s σ H Q I (k σ H Q q)
theorem qy{es:List Expr}{t t':TA}(h:PA X es t)(k:∀σ H Q,t' σ H Q→t σ H Q):PA X es t':=fun pos pins s σ H Q I q=>h pos pins s σ H Q I (k σ H Q q)
theorem jZ{st:Stmt}{t t':TS}(h:PS X st t)(k:∀D σ H,t' D σ H→t D σ H):PS X st t':=fun pins s σ H D I q=>h pins s σ H D I (k D σ H q)
theorem vB{st:List Stmt}{t t':TS}(h:PSs X st t)(k:∀D σ H,t' D σ H→t D σ H):PSs X st t':=fun pins s σ H D I q=>h pins s σ H D I (k D σ H q)
end
def BU:PyData→Option V
 |.none=>some .non
 |.bool b=>some (.bl b)
 |.int i=>some (.int i)
 |.str x=>some (.str x)
 |_=>none
theorem nv{K:Frag}{H:Hp}{d:PyData}{v:V}(h:BU d=some v):Rp K H v d:=by
 cases d <;> simp[BU]at h <;> subst h <;> constructor
def aa(i:Nat):bL:=fun E=>match E[i]? with
 |some (.sh d)=>some (.sh d,E)
 |some (.ow _)=>some (.al i,E)
 |some (.od _)=>some (.al i,E)
 |some (.tx _)=>some (.al i,E)
 |_=>none
def pC(d:PyData):bL:=fun E=>some (.sh d,E)
section
variable {X:Cx} {K:Frag}
theorem ab (i:Nat) {x:Str} {pos:Pos} (hN:X.N[i]? =some x:=by rfl) (hv:zS X.env.scope x:=by first |exact Or.inl rfl |exact Or.inr (Or.inl rfl) |exact Or.inr (Or.inr rfl)) (hd:(x == ("__debug__":Str))=false:=by decide)
  (hcd:(x == ("__classdict__":Str))=false:=by decide):EX X (.Name x pos) false (aa i):=by
 refine cf (nh hN hv hd hcd) fun σ H Q h=>?_
 obtain⟨B,E,xs,Xs,r,E',⟨F,A,fr⟩,_,e,q⟩:=h
 unfold aa at e
 split at e
 ·rename_i d ei
  cases e
  obtain⟨o,A1,eo,rfl,v,rfl,rp⟩:=fr.var ei
  exact⟨v,eo,q v H ⟨F,A,fr.push ⟨rfl,v,rfl,rp⟩⟩⟩
 ·rename_i ds ei
  cases e
  obtain⟨o,A1,eo,l,vs,rfl,_⟩:=fr.var ei
  exact⟨_,eo,q _ H ⟨F,A,fr.push ⟨rfl,_,rfl,eo⟩⟩⟩
 ·rename_i ds ei
  cases e
  obtain⟨o,A1,eo,l,vs,A2,rfl,_⟩:=fr.var ei
  exact⟨_,eo,q _ H ⟨F,A,fr.push ⟨rfl,_,rfl,eo⟩⟩⟩
 ·rename_i ds ei
  cases e
  obtain⟨o,A1,eo,l,vs,rfl,_⟩:=fr.var ei
  exact⟨_,eo,q _ H ⟨F,A,fr.push ⟨rfl,_,rfl,eo⟩⟩⟩
 ·cases e
theorem CU{e:Expr}{v:V}(d:PyData)(h:PE X e (tC v))(hd:BU d=some v:=by rfl):EX X e false (pC d):=by
 refine cf h fun σ H Q h=>?_
 obtain⟨B,E,xs,Xs,r,E',⟨F,A,fr⟩,_,e,q⟩:=h
 cases e
 exact q v H ⟨F,A,fr.push ⟨rfl,v,rfl,nv hd⟩⟩
theorem ak{i j pos}:EX X (.Constant (.int i) j pos) false (pC (.int i)):=CU _ Ck
theorem mz{b j pos}:EX X (.Constant (.bool b) j pos) false (pC (.bool b)):=CU _ DS
theorem lN{x j pos}:EX X (.Constant (.str x) j pos) false (pC (.str x)):=CU _ xK
end
abbrev P2:=List Sl→Sl→Sl→Option (Sl×List Sl)
def i9(K:Frag)(r:R2)(p:P2):Prop:=∀{B F:Hp} {A:List Addr} {σ:Sg} {H:Hp} {E:List Sl} {xs:List V} {Xs:List Sl} {v1 v2:V} {s1 s2 res:Sl} {E':List Sl} {Q:VK},
 FrF K B F A σ H E (v2::v1::xs) (s2::s1::Xs)→p E s1 s2=some (res,E')→(∀v H',Frm K B σ H' E' (v::xs) (res::Xs)→Q v H')→r v1 v2 H Q
def ae(p:P2)(m2:Bool)(f g:bL):bL:=fun E=>(f E).bind fun a=>if m2&&a.1.isBr then none else (g a.2).bind fun b=>p b.2 a.1 b.1
theorem qz{K:Frag}{r:R2}{p:P2}(hp:i9 K r p){m1 m2:Bool}{f g:bL}{σ:Sg}{H:Hp}{Q:VK}(h:rd K (m1||m2) (ae p m2 f g) σ H Q):D7 r (rd K m1 f) (rd K m2 g) σ H Q:=by
 obtain⟨B,E,xs,Xs,res,E',fr,c,e,q⟩:=h
 obtain⟨⟨s1,E1⟩,e1,e⟩:=Za.mp e
 by_cases hb:(m2&&s1.isBr)=true
 ·rw[if_pos hb]at e;cases e
 rw[if_neg hb]at e
 obtain⟨⟨s2,E2⟩,e2,e⟩:=Za.mp e
 refine⟨B,E,xs,Xs,s1,E1,fr,fun z=>c (by simp[z]),e1,fun v1 H1 fr1=>?_⟩
 refine⟨B,E1,v1::xs,s1::Xs,s2,E2,fr1,fun z=>?_,e2,fun v2 H2 fr2=>?_⟩
 ·refine Calm.cons (c (by simp[z])) ?_
  cases hs:s1.isBr with
  |false=>rfl
  |true=>exact absurd (by simp[z,hs]) hb
 ·obtain⟨F,A,fr2⟩:=fr2
  exact hp fr2 e q
def eC(op:PyData→PyData→Option PyData):P2:=fun E s1 s2=>(look E s1).bind fun d1=>(look E s2).bind fun d2=>(op d1 d2).map fun d=>(.sh d,E)
theorem FrF.res2{K:Frag}{B F:Hp}{A:List Addr}{σ:Sg}{H:Hp}{E:List Sl}{xs:List V}{Xs:List Sl}{v1 v2 v:V}{s1 s2 s:Sl}(h:FrF K B F A σ H E (v2::v1::xs) (s2::s1::Xs))(q:SlOk K F H σ (some v) s []):Frm K B σ H E (v::xs) (s::Xs):=by
 obtain⟨A1,h⟩:=h.pop
 obtain⟨A2,h⟩:=h.pop
 exact⟨F,A2,h.push q⟩
theorem i_{K:Frag}{r:R2}{op:PyData→PyData→Option PyData}(h:∀(d1 d2 d:PyData) (v1 v2:V) (H:Hp) (Q:VK),op d1 d2=some d→Rp K H v1 d1→Rp K H v2 d2→∃v,BU d=some v∧(Q v H→r v1 v2 H Q)):i9 K r (eC op):=by
 intro B F A σ H E xs Xs v1 v2 s1 s2 res E' Q fr e q
 obtain⟨d1,e1,e⟩:=Za.mp e
 obtain⟨d2,e2,e⟩:=Za.mp e
 obtain⟨d,e3,e⟩:=Zae.mp e
 cases e
 obtain⟨v,hv,k⟩:=h d1 d2 d v1 v2 H Q e3 (fr.look1 e1).1 (fr.look0 e2).1
 exact k (q v H (fr.res2 ⟨rfl,v,rfl,nv hv⟩))
section
variable {X:Cx} {a b:Expr} {m1 m2:Bool} {f g:bL} {pos:Pos}
theorem nw{op:Operator}{r:R2}{p:P2}(ho:OpR X (binaryOp op) r)(hp:i9 X.K r p)(ha:EX X a m1 f)(hb:EX X b m2 g):EX X (.BinOp a op b pos) (m1||m2) (ae p m2 f g):=cf (D8 ho ha hb) fun _ _ _ h=>qz hp h
theorem qA{op:CmpOp}{r:R2}{p:P2}(ho:OpR X (compareOp op) r)(hp:i9 X.K r p)(ha:EX X a m1 f)(hb:EX X b m2 g)(hm:behindInMarks op b=false):EX X (.Compare a [op] [b] pos) (m1||m2) (ae p m2 f g):=cf (Af ho ha hb hm) fun _ _ _ h=>qz hp h
def cN(f:bL):iu:=fun E=>(f E).bind fun a=>match a.1 with
 |.sh (.bool b)=>some (b,a.2)
 |_=>none
theorem uv{K:Frag}{m:Bool}{f:bL}{σ:Sg}{H:Hp}{Q:Bool→Hp→Prop}(h:rt K m (cN f) σ H Q):rd K m f σ H (fun x H'=>∃k,x=.bl k∧Q k H'):=by
 obtain⟨B,E,xs,Xs,b,E',fr,c,e,q⟩:=h
 obtain⟨⟨s,E1⟩,e1,e⟩:=Za.mp e
 refine⟨B,E,xs,Xs,s,E1,fr,c,e1,fun v H' ⟨F,A,fr'⟩=>?_⟩
 simp only at e
 split at e
 ·cases e
  obtain⟨r,_⟩:=fr'.look0 (d:=.bool b) rfl
  cases r
  obtain⟨A',fr2⟩:=fr'.pop
  exact⟨b,rfl,q H' ⟨F,A',fr2⟩⟩
 ·cases e
theorem ny{op:CmpOp}{r:R2}{p:P2}(ho:OpR X (compareOp op) r)(hp:i9 X.K r p)(ha:EX X a m1 f)(hb:EX X b m2 g)(hm:behindInMarks op b=false):TX X (.Compare a [op] [b] pos) (m1||m2) (cN (ae p m2 f g)):=by
 refine qx (Ag ho ha hb hm) fun σ H Q h=>?_
 exact qz hp (uv h)
end
def CV:Int:=2 ^ 20000
def ga(i j:Int):Bool:=decide (-(2 ^ 64) < i∧i < 2 ^ 64)||decide (-(2 ^ 64) < j∧j < 2 ^ 64)||decide (-CV < i∧i < CV∧ -CV < j∧j < CV)
def fI(j:Int):Bool:=decide (0 < j∧j < 2 ^ 200)
def ja(C:Int→Int→Bool)(g:Int→Int→PyData):PyData→PyData→Option PyData
 |.int i,.int j=>if C i j then some (g i j)else none
 |_,_=>none
abbrev CW(C:Int→Int→Bool)(g:Int→Int→V):R2:=rI (fun i j=>C i j=true) g
theorem nz{K:Frag}{C:Int→Int→Bool}{g:Int→Int→PyData}{g':Int→Int→V}(hg:∀i j,BU (g i j)=some (g' i j)):i9 K (CW C g') (eC (ja C g)):=by
 refine i_ fun d1 d2 d v1 v2 H Q e r1 r2=>?_
 unfold ja at e
 split at e
 ·split at e
  ·cases e
   cases r1
   cases r2
   rename_i hC
   exact⟨_,hg _ _,fun q=>⟨_,_,rfl,rfl,hC,q⟩⟩
  ·cases e
 ·cases e
section
variable {X:Cx}
theorem mB{i:Int}(h1: -CV < i)(h2:i < CV):Builtin.Int.intBits i≤2 ^ 20:=by
 unfold CV at h1 h2
 have h:i.natAbs < 2 ^ 20000:=by
  have e:((2 ^ 20000:Nat):Int)=2 ^ 20000:=Int.natCast_pow 2 20000
  generalize (2 ^ 20000:Int)=z at h1 h2 e
  generalize (2 ^ 20000:Nat)=y at e ⊢
  omega
 unfold Builtin.Int.intBits
 split
 ·exact Nat.zero_le _
 ·rename_i hz
  have hz':i≠0:=by simpa using hz
  have:i.natAbs.log2 < 20000:=(Nat.log2_lt (by omega)).mpr h
  omega
theorem ye{i j:Int}(h:ga i j=true):PySem.IntMulOk i j:=by
 unfold ga at h
 simp only[Bool.or_eq_true,decide_eq_true_eq]at h
 rcases h with(h |h) |h
 ·exact CMul.ok (.inl h)
 ·exact CMul.ok (.inr h)
 ·exact PySem.IntMulOk.of_bits (mB h.1 h.2.1) (mB h.2.2.1 h.2.2.2)
end
end PL
namespace PL
open PySem L2 Nh PyProof.Rows
abbrev lC:=L2.St
section
variable {X:Cx}
theorem OpR.or{f:Value→Value→Sem Value}{r r':R2}(h:OpR X f r)(h':OpR X f r'):OpR X f (fun x y H Q=>r x y H Q∨r' x y H Q):=by
 intro pins s σ H x y v u Q I rx ry q
 rcases q with q |q
 ·exact h pins s σ H x y v u Q I rx ry q
 ·exact h' pins s σ H x y v u Q I rx ry q
theorem OpR.imp{f:Value→Value→Sem Value}{r r':R2}(h:OpR X f r)(k:∀x y H Q,r' x y H Q→r x y H Q):OpR X f r':=fun pins s σ H x y v u Q I rx ry q=>h pins s σ H x y v u Q I rx ry (k _ _ _ _ q)
def BV(K:Frag):R2:=fun x y H Q=>∃l b xs zs,x=.ref l∧y=.ref b∧SqL K H l xs∧SqL K H b zs∧xs.length+zs.length≤sizeLine∧∀p,H p=none→Q (.ref p) (upd H p (.lst (xs++zs)))
theorem Ax:OpR X (binaryOp .Add) (BV X.K):=by
 intro pins s σ H x y v u Q I rx ry h
 obtain⟨l,b,xs,zs,rfl,rfl,hH,hB,hz,q⟩:=h
 cases rx
 cases ry
 obtain⟨its,r,p1,z1⟩:=I.list hH
 obtain⟨its2,r2,p2,z2⟩:=I.list hB
 obtain⟨⟨cls,dd,data,sl⟩,ho,hc,n,hd⟩:=p1.isList
 obtain⟨⟨cls2,dd2,data2,sl2⟩,ho2,hc2,n2,xH⟩:=p2.isList
 simp only at hc hd hc2 xH
 subst hc hd hc2 xH
 have l1:=r.length
 have l2:=r2.length
 refine concat_meets ⟨_,ho,rfl⟩ ⟨_,ho2,rfl⟩ noFill_list_add seq_list_add PySem.F.slot_list_add PySem.F.entry_list_add (PySem.F.args_list_add_2 _ _) (list_addW l b its.toArray its2.toArray n n2 dd dd2 sl sl2 (by simp only[kB];omega)) ⟨ho,ho2,?_⟩
 have ea:its.toArray++its2.toArray=(its++its2).toArray:=by simp
 rw[ea]
 exact⟨.ref _,_,I.lnew (t':=s.toks) (r.append r2) (by rw[vn];omega),rfl,q _ I.fresh⟩
def BW(K:Frag):R2:=fun x y H Q=>∃l k xs,x=.ref l∧y=.int k∧SqL K H l xs∧ -(2 ^ 63)≤k∧k < 2 ^ 63∧xs.length*k.toNat≤sizeLine∧
 ∀p,H p=none→Q (.ref p) (upd H p (.lst (List.replicate k.toNat xs).flatten))
theorem Ay:OpR X (binaryOp .Mult) (BW X.K):=by
 intro pins s σ H x y v u Q I rx ry h
 obtain⟨l,k,xs,rfl,rfl,hH,h1,h2,hz,q⟩:=h
 cases rx
 obtain⟨t,rfl⟩:=ry
 obtain⟨its,r,p1,z1⟩:=I.list hH
 obtain⟨⟨cls,d,data,sl⟩,ho,hcl,n,hd⟩:=p1.isList
 simp only at hcl hd
 subst hcl hd
 have l1:=r.length
 have hsz:its.toArray.size*k.toNat≤2 ^ 24:=by rw[kB,←l1];exact hz
 refine wpAny_binaryOp_repeat_ref (T:="list") (U:="int") (by decide) ⟨_,ho,rfl⟩ (fun s'=>typeIs_int s' k t) noFill_list_mul F.fills_int_mul F.slot_int_rmul repeat_list F.slot_int_index.lookup
  (call_meets F.slot_int_rmul (typeIs_int s k t) F.entry_int_rmul (F.args_int_rmul_2 _ _) (lm_int_rmul_list_any k t l its.toArray n d sl)
   ⟨ho,rfl,⟨_,ho,rfl⟩,call_meets F.slot_list_mul ⟨_,ho,rfl⟩ F.entry_list_mul (F.args_list_mul_2 _ _)
    (lm_list_mul_any l its.toArray n d sl k t (by simp[Builtin.List.listFitsIndex];omega) (by omega) (by simp[Builtin.List.listTooLong,sizeLine];omega))
    ⟨ho,?_⟩⟩)
 rw[listMul_foldl_if]
 exact⟨.ref _,_,I.lnew (t':=s.toks) (r.rep k.toNat) (by rw[Aq,Nat.mul_comm];exact hz),rfl,q _ I.fresh⟩
end
def aG:P2:=fun E s1 s2=>(look E s1).bind fun d1=>(look E s2).bind fun d2=>match d1,d2 with
 |.int i,.int j=>some (.sh (.int (i+j)),E)
 |.str a,.str b=>if a.length+b.length≤1000000 then some (.sh (.str (a++b)),E)else none
 |.list a,.list b=>if decide (a.length+b.length≤1000000)&&(!eL E s1||bH a)&&(!eL E s2||bH b)then some (.ow (a++b),E)else none
 |_,_=>none
theorem small{n:Nat}(h:n≤1000000):n < sizeLine:=vm h (by rw[sizeLine_eq];decide)
theorem ie{n:Nat}(h:n≤1000000):n≤sizeLine:=jV (small h)
section
variable {K:Frag} {B F:Hp} {A:List Addr} {σ:lC} {H:Hp} {E:List Sl} {xs:List V} {Xs:List Sl} {v:V} {s:Sl} {ds:List PyData}
theorem FrF.items{k:Nat}(h:FrF K B F A σ H E xs Xs)(e:Xs[k]? =some s)(q:PL.look E s=some (.list ds))(c:(!eL E s||bH ds)=true):∃a vs,xs[k]? =some (.ref a)∧SqL K H a vs∧RpA K F vs ds:=by
 obtain⟨v,ev,r,f⟩:=h.look e q
 cases hh:eL E s with
 |false=>
  obtain⟨a,vs,rfl,h1,h2⟩:=f hh
  exact⟨a,vs,ev,h1,h2⟩
 |true=>
  rw[hh]at c
  cases r with
  |lst h1 h2=>exact⟨_,_,ev,h1,h.coldA h2 (by simpa using c)⟩
theorem FrF.res2l{v1 v2:V}{s1 s2:Sl}{vs:List V}(h:FrF K B F A σ H E (v2::v1::xs) (s2::s1::Xs))(r:RpA K F vs ds){p:Addr}(hp:H p=none):Frm K B σ (upd H p (.lst vs)) E (.ref p::xs) (.ow ds::Xs):=by
 obtain⟨A1,h⟩:=h.pop
 obtain⟨A2,h⟩:=h.pop
 exact⟨F,_,h.newl r hp⟩
end
abbrev BX(K:Frag):R2:=fun x y H Q=>(∃i j,x=.int i∧y=.int j∧Q (.int (i+j)) H)∨(∃i j,x=.str i∧y=.str j∧i.length+j.length≤sizeLine∧Q (.str (i++j)) H)∨BV K x y H Q
theorem Az{X:Cx}:OpR X (binaryOp .Add) (BX X.K):=OpR.or CC (OpR.or um Ax)
theorem AA{K:Frag}:i9 K (BX K) aG:=by
 intro B F A σ H E xs Xs v1 v2 s1 s2 res E' Q fr e q
 obtain⟨d1,e1,e⟩:=Za.mp e
 obtain⟨d2,e2,e⟩:=Za.mp e
 have r1:=(fr.look1 e1).1
 have r2:=(fr.look0 e2).1
 split at e
 ·cases e;cases r1;cases r2
  exact .inl ⟨_,_,rfl,rfl,q _ _ (fr.res2 ⟨rfl,_,rfl,.int _⟩)⟩
 ·split at e
  ·rename_i hl
   cases e;cases r1;cases r2
   exact .inr (.inl ⟨_,_,rfl,rfl,ie hl,q _ _ (fr.res2 ⟨rfl,_,rfl,.str _⟩)⟩)
  ·cases e
 ·split at e
  ·rename_i hc
   cases e
   simp only[uf,decide_eq_true_eq]at hc
   obtain⟨a1,u1,x1,q1,i1⟩:=fr.items (k:=1) rfl e1 hc.1.2
   obtain⟨a2,u2,x2,q2,i2⟩:=fr.items (k:=0) rfl e2 hc.2
   cases x1;cases x2
   have l1:=i1.len
   have l2:=i2.len
   exact .inr (.inr ⟨_,_,_,_,rfl,rfl,q1,q2,ie (by omega),fun p hp=>q _ _ (fr.res2l (i1.append i2) hp)⟩)
  ·cases e
 ·cases e
def i6:P2:=eC (ja (fun _ _=>true) fun i j=>.int (i - j))
def ba:P2:=eC (ja (fun _ j=>fI j) fun i j=>.int (i / j))
def bV:P2:=eC (ja (fun _ j=>decide (0 < j)) fun i j=>.int (i % j))
def jb:P2:=eC (ja (fun i j=>decide (0≤j∧j≤1000000∧ -(2 ^ 64) < i∧i < 2 ^ 64)) fun i j=>.int (i ^ j.toNat))
section
variable {X:Cx}
theorem AB:OpR X (binaryOp .Sub) (CW (fun _ _=>true) fun i j=>.int (i - j)):=OpR.imp CD fun x y H Q ⟨i,j,a,b,_,q⟩=>⟨i,j,a,b,q⟩
theorem yf:OpR X (binaryOp .FloorDiv) (CW (fun _ j=>fI j) fun i j=>.int (i / j)):=Fd fun i j _ _ _ _ _ hc q=>by
 obtain⟨h1,h2⟩:=of_decide_eq_true hc
 have h3:j.natAbs.log2 < 9000:=by
  have:j.natAbs < 2 ^ 200:=by omega
  have:=(Nat.log2_lt (n:=j.natAbs) (k:=200) (by omega)).mpr this
  omega
 exact floordiv_int (by omega) (by rw[Int.fdiv_eq_ediv_of_nonneg i (by omega)];exact q) (.inl (PyProof.noPylong_of_log2 h3))
theorem AC:OpR X (binaryOp .Mod) (CW (fun _ j=>decide (0 < j)) fun i j=>.int (i % j)):=OpR.imp CF fun x y H Q ⟨i,j,a,b,c,q⟩=>⟨i,j,a,b,of_decide_eq_true c,q⟩
theorem AD{i j:Int}(c:0≤j∧j≤1000000∧ -(2 ^ 64) < i∧i < 2 ^ 64):D_ i j:=⟨c.1,c.2.1,by omega⟩
theorem AE:OpR X (binaryOp .Pow) (CW (fun i j=>decide (0≤j∧j≤1000000∧ -(2 ^ 64) < i∧i < 2 ^ 64)) fun i j=>.int (i ^ j.toNat)):=OpR.imp CG fun x y H Q ⟨i,j,a,b,c,q⟩=>⟨i,j,a,b,AD (of_decide_eq_true c),q⟩
end
def gM:P2:=fun E s1 s2=>(look E s1).bind fun d1=>(look E s2).bind fun d2=>match d1,d2 with
 |.int i,.int j=>if ga i j then some (.sh (.int (i*j)),E)else none
 |.list a,.int k=>if decide (a.length*k.toNat≤1000000∧ -1000000≤k∧k≤1000000)&&(!eL E s1||bH a)then some (.ow (List.replicate k.toNat a).flatten,E)else none
 |_,_=>none
abbrev BY(K:Frag):R2:=fun x y H Q=>CW ga (fun i j=>.int (i*j)) x y H Q∨BW K x y H Q
theorem AF{X:Cx}:OpR X (binaryOp .Mult) (BY X.K):=OpR.or (Fd fun _ _ _ _ _ _ _ hc q=>mul_int q (ye hc)) Ay
theorem AG{K:Frag}:i9 K (BY K) gM:=by
 intro B F A σ H E xs Xs v1 v2 s1 s2 res E' Q fr e q
 obtain⟨d1,e1,e⟩:=Za.mp e
 obtain⟨d2,e2,e⟩:=Za.mp e
 have r1:=(fr.look1 e1).1
 have r2:=(fr.look0 e2).1
 split at e
 ·split at e
  ·rename_i hm
   cases e;cases r1;cases r2
   exact .inl ⟨_,_,rfl,rfl,hm,q _ _ (fr.res2 ⟨rfl,_,rfl,.int _⟩)⟩
  ·cases e
 ·split at e
  ·rename_i hc
   cases e
   simp only[uf,decide_eq_true_eq]at hc
   obtain⟨a1,u1,x1,q1,i1⟩:=fr.items (k:=1) rfl e1 hc.2
   cases x1;cases r2
   have l1:=i1.len
   exact .inr ⟨_,_,_,rfl,rfl,q1,by omega,by omega,ie (by rw[l1];exact hc.1.1),fun p hp=>q _ _ (fr.res2l (i1.rep _) hp)⟩
  ·cases e
 ·cases e
section
variable {X:Cx} {a b:Expr} {m1 m2:Bool} {f g:bL} {pos:Pos}
theorem aY(ha:EX X a m1 f)(hb:EX X b m2 g):EX X (.BinOp a .Add b pos) (m1||m2) (ae aG m2 f g):=nw Az AA ha hb
theorem lO(ha:EX X a m1 f)(hb:EX X b m2 g):EX X (.BinOp a .Sub b pos) (m1||m2) (ae i6 m2 f g):=nw AB (nz fun _ _=>rfl) ha hb
theorem ig(ha:EX X a m1 f)(hb:EX X b m2 g):EX X (.BinOp a .Mult b pos) (m1||m2) (ae gM m2 f g):=nw AF AG ha hb
theorem dP(ha:EX X a m1 f)(hb:EX X b m2 g):EX X (.BinOp a .FloorDiv b pos) (m1||m2) (ae ba m2 f g):=nw yf (nz fun _ _=>rfl) ha hb
theorem cU(ha:EX X a m1 f)(hb:EX X b m2 g):EX X (.BinOp a .Mod b pos) (m1||m2) (ae bV m2 f g):=nw AC (nz fun _ _=>rfl) ha hb
theorem j0(ha:EX X a m1 f)(hb:EX X b m2 g):EX X (.BinOp a .Pow b pos) (m1||m2) (ae jb m2 f g):=nw AE (nz fun _ _=>rfl) ha hb
end
def FJ(K:Frag)(r:V→Hp→VK→Prop)(op:PyData→Option PyData):Prop:=∀(d1 d:PyData) (v1:V) (H:Hp) (Q:VK),op d1=some d→Rp K H v1 d1→∃v,BU d=some v∧(Q v H→r v1 H Q)
def iI(op:PyData→Option PyData)(f:bL):bL:=fun E=>(f E).bind fun a=>(look a.2 a.1).bind fun d1=>(op d1).map fun d=>(.sh d,a.2)
theorem Eu{K:Frag}{r:V→Hp→VK→Prop}{op:PyData→Option PyData}(hp:FJ K r op){m:Bool}{f:bL}{σ:lC}{H:Hp}{Q:VK}(h:rd K m (iI op f) σ H Q):rd K m f σ H (fun x H1=>r x H1 Q):=by
 obtain⟨B,E,xs,Xs,res,E',fr,c,e,q⟩:=h
 obtain⟨⟨s1,E1⟩,e1,e⟩:=Za.mp e
 obtain⟨d1,e2,e⟩:=Za.mp e
 obtain⟨d,e3,e⟩:=Zae.mp e
 cases e
 refine⟨B,E,xs,Xs,s1,E1,fr,c,e1,fun v1 H1 ⟨F,A,fr1⟩=>?_⟩
 obtain⟨v,hv,k⟩:=hp d1 d v1 H1 Q e3 (fr1.look0 e2).1
 obtain⟨A',fr2⟩:=fr1.pop
 exact k (q v H1 ⟨F,A',fr2.push ⟨rfl,v,rfl,nv hv⟩⟩)
def gr:PyData→Option PyData
 |.int i=>some (.int (-i))
 |_=>none
section
variable {X:Cx} {a b c:Expr} {m1 m2 m3:Bool} {f g h:bL} {pos:Pos}
theorem nC(ha:EX X a m1 f):EX X (.UnaryOp .USub a pos) m1 (iI gr f):=cf (D9 CI ha) fun σ H Q h=>Eu (r:=rU fun i=>.int (-i)) (fun d1 d v1 H Q e r=>by
 cases d1 <;> simp[gr]at e
 cases e;cases r
 exact⟨_,rfl,fun q=>⟨_,rfl,q⟩⟩) h
end
def wD(d1 d2:PyData):Option Bool:=match d1,d2 with
 |.int i,.int j=>some (decide (i=j))
 |.str a,.str b=>some (decide (a=b))
 |.bool a,.bool b=>some (decide (a=b))
 |.none,.none=>some true
 |.none,.str _=>some false
 |.str _,.none=>some false
 |d1,d2=>if SeqAt.shaped d1&&SeqAt.shaped d2 then some (PyData.eqv d1 d2)else none
def fg:P2:=eC fun d1 d2=>(wD d1 d2).map fun b=>.bool b
def kH:P2:=eC fun d1 d2=>(wD d1 d2).map fun b=>.bool (!b)
abbrev FK(K:Frag):R2:=fun x y H Q=>F7 x y H Q∨Ep K x y H Q
abbrev FL(K:Frag):R2:=fun x y H Q=>F8 x y H Q∨Er K x y H Q
theorem yg{K:Frag}{H:Hp}{v1 v2:V}{d1 d2:PyData}{b:Bool}(e:wD d1 d2=some b)(r1:Rp K H v1 d1)(r2:Rp K H v2 d2):
  (CJ v1 v2=true∧decide (v1=v2)=b)∨(DOf K H v1 d1∧DOf K H v2 d2∧SeqAt.shaped d1=true∧SeqAt.shaped d2=true∧PyData.eqv d1 d2=b):=by
 unfold wD at e
 split at e
 ·cases e;cases r1;cases r2;exact .inl ⟨rfl,by simp⟩
 ·cases e;cases r1;cases r2;exact .inl ⟨rfl,by simp⟩
 ·cases e;cases r1;cases r2;exact .inl ⟨rfl,by simp⟩
 ·cases e;cases r1;cases r2;exact .inl ⟨rfl,rfl⟩
 ·cases e;cases r1;cases r2;exact .inl ⟨rfl,rfl⟩
 ·cases e;cases r1;cases r2;exact .inl ⟨rfl,rfl⟩
 ·split at e
  ·rename_i hs
   cases e
   simp only[uf]at hs
   exact .inr ⟨r1.dof hs.1,r2.dof hs.2,hs.1,hs.2,rfl⟩
  ·cases e
theorem yh{K:Frag}:i9 K (FK K) fg:=i_ fun d1 d2 d v1 v2 H Q e r1 r2=>by
 obtain⟨b,e',rfl⟩:=Zae.mp e
 refine⟨_,rfl,fun q=>?_⟩
 rcases yg e' r1 r2 with⟨a,rfl⟩ |⟨a1,a2,a3,a4,rfl⟩
 ·exact .inl ⟨a,q⟩
 ·exact .inr ⟨_,_,a1,a2,a3,a4,q⟩
theorem yi{K:Frag}:i9 K (FL K) kH:=i_ fun d1 d2 d v1 v2 H Q e r1 r2=>by
 obtain⟨b,e',rfl⟩:=Zae.mp e
 refine⟨_,rfl,fun q=>?_⟩
 rcases yg e' r1 r2 with⟨a,rfl⟩ |⟨a1,a2,a3,a4,rfl⟩
 ·exact .inl ⟨a,q⟩
 ·exact .inr ⟨_,_,a1,a2,a3,a4,q⟩
def sf(K:Frag)(r:R2)(op:PyData→PyData→Option PyData):Prop:=∀(d1 d2 d:PyData) (v1 v2:V) (H:Hp) (Q:VK),op d1 d2=some d→Rp K H v1 d1→Rp K H v2 d2→∃v,BU d=some v∧(Q v H→r v1 v2 H Q)
def gN(op op':PyData→PyData→Option PyData)(m2 m3:Bool)(f g h:bL):bL:=fun E=>(f E).bind fun a=>if (m2||m3)&&a.1.isBr then none else (g a.2).bind fun b=>if m3&&b.1.isBr then none else
 (look b.2 a.1).bind fun d1=>(look b.2 b.1).bind fun d2=>match op d1 d2 with
  |some (.bool true)=>(h b.2).bind fun c=>(look c.2 b.1).bind fun d2=>(look c.2 c.1).bind fun d3=>(op' d2 d3).map fun d=>(.sh d,c.2)
  |some (.bool false)=>some (.sh (.bool false),b.2)
  |_=>none
section
variable {X:Cx} {a b c:Expr} {m1 m2 m3:Bool} {f g h:bL} {pos:Pos}
theorem vC(hu:X.A.units+64 < cLine)(ha:EX X a m1 f)(hb:EX X b m2 g):EX X (.Compare a [.Eq] [b] pos) (m1||m2) (ae fg m2 f g):=qA (OpR.or BN (x_ hu)) yh ha hb (nj _)
theorem Ev(hu:X.A.units+64 < cLine)(ha:EX X a m1 f)(hb:EX X b m2 g):EX X (.Compare a [.NotEq] [b] pos) (m1||m2) (ae kH m2 f g):=qA (OpR.or BO (ya hu)) yi ha hb (nj _)
theorem g8(hu:X.A.units+64 < cLine)(ha:EX X a m1 f)(hb:EX X b m2 g):TX X (.Compare a [.Eq] [b] pos) (m1||m2) (cN (ae fg m2 f g)):=ny (OpR.or BN (x_ hu)) yh ha hb (nj _)
theorem oZ(hu:X.A.units+64 < cLine)(ha:EX X a m1 f)(hb:EX X b m2 g):TX X (.Compare a [.NotEq] [b] pos) (m1||m2) (cN (ae kH m2 f g)):=ny (OpR.or BO (ya hu)) yi ha hb (nj _)
theorem sj{K:Frag}{r r':R2}{op op':PyData→PyData→Option PyData}(k:sf K r op)(k':sf K r' op'){σ:lC}{H:Hp}{Q:VK}(z:rd K (m1||(m2||m3)) (gN op op' m2 m3 f g h) σ H Q):uk r r' (rd K m1 f) (rd K m2 g) (rd K m3 h) σ H Q:=by
 obtain⟨B,E,xs,Xs,res,E',fr,cl,e,q⟩:=z
 obtain⟨⟨s1,E1⟩,e1,e⟩:=Za.mp e
 by_cases hb:((m2||m3)&&s1.isBr)=true
 ·rw[if_pos hb]at e;cases e
 rw[if_neg hb]at e
 obtain⟨⟨s2,E2⟩,e2,e⟩:=Za.mp e
 by_cases hb2:(m3&&s2.isBr)=true
 ·rw[if_pos hb2]at e;cases e
 rw[if_neg hb2]at e
 obtain⟨d1,l1,e⟩:=Za.mp e
 obtain⟨d2,l2,e⟩:=Za.mp e
 have n1:(m2||m3)=true→s1.isBr=false:=fun z=>by
  cases hs:s1.isBr with
  |false=>rfl
  |true=>exact absurd (by rw[z,hs];rfl) hb
 have n2:m3=true→s2.isBr=false:=fun z=>by
  cases hs:s2.isBr with
  |false=>rfl
  |true=>exact absurd (by rw[z,hs];rfl) hb2
 refine⟨B,E,xs,Xs,s1,E1,fr,fun z=>cl (by simp[z]),e1,fun v1 H1 fr1=>?_⟩
 refine⟨B,E1,v1::xs,s1::Xs,s2,E2,fr1,fun z=>Calm.cons (cl (by simp[z])) (n1 (by simp[z])),e2,fun v2 H2 ⟨F,A,fr2⟩=>?_⟩
 cases ho:op d1 d2 with
 |none=>rw[ho]at e;cases e
 |some d=>
  rw[ho]at e
  obtain⟨v,hv,kk⟩:=k d1 d2 d v1 v2 H2 (fun z H3=>∃k,z=.bl k∧(if k=true then rd K m3 h σ H3 fun w' H4=>r' v2 w' H4 Q else Q (.bl false) H3)) ho (fr2.look1 l1).1 (fr2.look0 l2).1
  cases d with
  |bool t=>
   cases hv
   refine kk ⟨t,rfl,?_⟩
   cases t with
   |true=>
    rw[if_pos rfl]
    obtain⟨⟨s3,E3⟩,e3,e⟩:=Za.mp e
    obtain⟨d2',l2',e⟩:=Za.mp e
    obtain⟨d3,l3,e⟩:=Za.mp e
    obtain⟨d,ho',e⟩:=Zae.mp e
    cases e
    refine⟨B,E2,v2::v1::xs,s2::s1::Xs,s3,E3,⟨F,A,fr2⟩,fun z=>Calm.cons (Calm.cons (cl (by simp[z])) (n1 (by simp[z]))) (n2 z),e3,fun v3 H3 ⟨F3,A3,fr3⟩=>?_⟩
    obtain⟨v,hv,kk⟩:=k' d2' d3 d v2 v3 H3 Q ho' (fr3.look1 l2').1 (fr3.look0 l3).1
    obtain⟨A4,fr4⟩:=fr3.pop
    exact kk (q v H3 (fr4.res2 ⟨rfl,v,rfl,nv hv⟩))
   |false=>
    rw[if_neg (by decide)]
    cases e
    exact q _ _ (fr2.res2 ⟨rfl,_,rfl,.bl _⟩)
  |none=>cases e
  |int i=>cases e
  |str x=>cases e
  |list xs=>cases e
  |tuple xs=>cases e
  |dict kvs=>cases e
theorem yj{o1 o2:CmpOp}{r r':R2}{op op':PyData→PyData→Option PyData}(ho:OpR X (compareOp o1) r)(ho':OpR X (compareOp o2) r')(k:sf X.K r op)(k':sf X.K r' op')(ha:EX X a m1 f)(hb:EX X b m2 g)(hc:EX X c m3 h)
  (hm:lastMarks [o1,o2] [b,c]=false:=by with_unfolding_all rfl):EX X (.Compare a [o1,o2] [b,c] pos) (m1||(m2||m3)) (gN op op' m2 m3 f g h):=cf (xP ho ho' ha hb hc hm) fun _ _ _ z=>sj k k' z
end
end PL
namespace PL
open PySem L2 Nh
def nD(f g:bL):bL:=fun E=>(f E).bind fun a=>match a.1 with
 |.sh (.bool true)=>g a.2
 |.sh (.bool false)=>some (.sh (.bool false),a.2)
 |_=>none
def eR(f g:iu):iu:=fun E=>(f E).bind fun a=>if a.1 then g a.2 else some (false,a.2)
def iJ(f g:iu):iu:=fun E=>(f E).bind fun a=>if a.1 then some (true,a.2)else g a.2
def dv(f:iu):iu:=fun E=>(f E).map fun a=>(!a.1,a.2)
def gO:PyData→Option Bool
 |.none=>some false
 |.bool b=>some b
 |.int i=>some (i != 0)
 |.str x=>if x.length≤1000000 then some ((x.length:Int) != 0)else none
 |.list xs=>some (!xs.isEmpty)
 |.tuple xs=>some (!xs.isEmpty)
 |.dict _=>none
def d_(f:bL):iu:=fun E=>(f E).bind fun a=>match a.1 with
 |.al i=>match a.2[i]? with
  |some (.od kvs)=>some (!kvs.isEmpty,a.2)
  |some s=>(s.val.bind gO).map fun b=>(b,a.2)
  |none=>none
 |s=>(s.val.bind gO).map fun b=>(b,a.2)
section
variable {X:Cx} {a b c:Expr} {aU:List Expr} {m1 m2 m3:Bool} {f g h:bL} {t u:iu} {pos:Pos} {K:Frag}
theorem yk{op}(h:EX X a m1 f):EX X (.BoolOp op [a] pos) m1 f:=Cp h
theorem uw(ha:EX X a m1 f)(hb:EX X (.BoolOp .And (b::aU) pos) m2 g):EX X (.BoolOp .And (a::b::aU) pos) (m1||m2) (nD f g):=by
 refine cf (Cq ha hb) fun σ H Q z=>?_
 obtain⟨B,E,xs,Xs,res,E',fr,cl,e,q⟩:=z
 obtain⟨⟨s1,E1⟩,e1,e⟩:=Za.mp e
 refine⟨B,E,xs,Xs,s1,E1,fr,fun z=>cl (by simp[z]),e1,fun v1 H1 ⟨F,A,fr1⟩=>?_⟩
 simp only at e
 split at e
 ·obtain⟨r,_⟩:=fr1.look0 (d:=.bool true) rfl
  cases r
  obtain⟨A',fr2⟩:=fr1.pop
  exact⟨true,rfl,(if_pos rfl).mpr ⟨B,E1,xs,Xs,res,E',⟨F,A',fr2⟩,fun z=>cl (by simp[z]),e,q⟩⟩
 ·cases e
  obtain⟨r,_⟩:=fr1.look0 (d:=.bool false) rfl
  cases r
  exact⟨false,rfl,(if_neg (by decide)).mpr (q _ _ ⟨F,A,fr1⟩)⟩
 ·cases e
theorem mW(ha:TX X a m1 t):WX X (.BoolOp .And [a] pos) m1 t:=zZ ha
theorem uz(ha:TX X a m1 t):WX X (.BoolOp .Or [a] pos) m1 t:=Cl ha
theorem qB(ha:TX X a m1 t)(hb:WX X (.BoolOp .And (b::aU) pos) m2 u):WX X (.BoolOp .And (a::b::aU) pos) (m1||m2) (eR t u):=by
 refine yd (Cn ha hb) fun σ H Q z=>?_
 obtain⟨B,E,xs,Xs,res,E',fr,cl,e,q⟩:=z
 obtain⟨⟨b1,E1⟩,e1,e⟩:=Za.mp e
 refine⟨B,E,xs,Xs,b1,E1,fr,fun z=>cl (by simp[z]),e1,fun H1 fr1=>?_⟩
 cases b1 with
 |true=>exact(if_pos rfl).mpr ⟨B,E1,xs,Xs,res,E',fr1,fun z=>cl (by simp[z]),e,q⟩
 |false=>cases e;exact(if_neg (by decide)).mpr (q _ fr1)
theorem vD(ha:TX X a m1 t)(hb:WX X (.BoolOp .Or (b::aU) pos) m2 u):WX X (.BoolOp .Or (a::b::aU) pos) (m1||m2) (iJ t u):=by
 refine yd (DT ha hb) fun σ H Q z=>?_
 obtain⟨B,E,xs,Xs,res,E',fr,cl,e,q⟩:=z
 obtain⟨⟨b1,E1⟩,e1,e⟩:=Za.mp e
 refine⟨B,E,xs,Xs,b1,E1,fr,fun z=>cl (by simp[z]),e1,fun H1 fr1=>?_⟩
 cases b1 with
 |true=>cases e;exact(if_pos rfl).mpr (q _ fr1)
 |false=>exact(if_neg (by decide)).mpr ⟨B,E1,xs,Xs,res,E',fr1,fun z=>cl (by simp[z]),e,q⟩
theorem uA(h:WX X a m1 t):TX X a m1 t:=PW.pt h
theorem jc(ha:TX X a m1 t):TX X (.UnaryOp .Not a pos) m1 (dv t):=by
 refine qx (Co ha) fun σ H Q z=>?_
 obtain⟨B,E,xs,Xs,res,E',fr,cl,e,q⟩:=z
 obtain⟨⟨b1,E1⟩,e1,e⟩:=Zae.mp e
 cases e
 exact⟨B,E,xs,Xs,b1,E1,fr,cl,e1,fun H1 fr1=>q _ fr1⟩
theorem CY{H:Hp}{v:V}{d:PyData}{b:Bool}(r:Rp K H v d)(e:gO d=some b):xR K v H b:=by
 cases r with
 |non=>cases e;rfl
 |bl b=>cases e;rfl
 |int i=>cases e;rfl
 |str x=>
  simp only[gO]at e
  split at e
  ·rename_i hl
   cases e
   exact⟨ie hl,rfl⟩
  ·cases e
 |lst h r=>cases e;exact .inl ⟨_,h,by cases r <;> rfl⟩
 |tup h r=>cases e;exact .inr (.inl ⟨_,h,by cases r <;> rfl⟩)
 |dct h r=>cases e
theorem gP(ha:EX X a m1 f)(he:∀whole,isTrue a X.env whole=(do let v ←whole;standAt a.pos;holding [v] (truthy v)):=by exact fun _=>rfl):TX X a m1 (d_ f):=by
 refine qx (xT ha he) fun σ H Q z=>?_
 obtain⟨B,E,xs,Xs,res,E',fr,cl,e,q⟩:=z
 obtain⟨⟨s,E1⟩,e1,e⟩:=Za.mp e
 refine⟨B,E,xs,Xs,s,E1,fr,cl,e1,fun v1 H1 ⟨F,A,fr1⟩=>?_⟩
 have key:∀d,look E1 s=some d→(gO d).map (fun b=>(b,E1))=some (res,E')→∃k,xR X.K v1 H1 k∧Q k H1:=fun d l e=>by
  obtain⟨b,e',z⟩:=Zae.mp e
  cases z
  obtain⟨A',fr2⟩:=fr1.pop
  exact⟨_,CY (fr1.look0 l).1 e',q _ ⟨F,A',fr2⟩⟩
 have kv:(s.val.bind gO).map (fun b=>(b,E1))=some (res,E')→(∀i,s≠ .al i)→∃k,xR X.K v1 H1 k∧Q k H1:=fun e na=>by
  obtain⟨b,e',z⟩:=Zae.mp e
  obtain⟨d,e1,e2⟩:=Za.mp e'
  refine key d ?_ (by rw[e2];exact congrArg some z)
  cases s <;> first |exact e1 |exact absurd rfl (na _)
 simp only at e
 split at e
 ·rename_i i
  split at e
  ·rename_i kvs ei
   cases e
   obtain⟨v',A1,ev,rfl,w,ew,hw⟩:=fr1.ext (k:=0) rfl
   cases ev;cases ew
   obtain⟨o,A1,eo,l,us,A2,rfl,_,hl,r⟩:=fr1.var ei
   rw[hw]at eo
   cases eo
   obtain⟨A',fr2⟩:=fr1.pop
   exact⟨_,.inr (.inr ⟨_,hl,by cases us <;> cases kvs <;> first |rfl |exact False.elim r⟩),q _ ⟨F,A',fr2⟩⟩
  ·rename_i s' _ ei
   obtain⟨b,e',z⟩:=Zae.mp e
   obtain⟨d,e1,e2⟩:=Za.mp e'
   exact key d (by simp[look,ei,e1]) (by rw[e2];exact congrArg some z)
  ·cases e
 ·rename_i na
  exact kv e na
end
theorem ym{X:Cx}{a b c:Expr}{m1 m2 m3:Bool}{f g h:bL}{pos:Pos}{o1 o2:CmpOp}{r r':R2}{op op':PyData→PyData→Option PyData}(ho:OpR X (compareOp o1) r)(ho':OpR X (compareOp o2) r')(k:sf X.K r op)(k':sf X.K r' op')(ha:EX X a m1 f)(hb:EX X b m2 g)(hc:EX X c m3 h)
  (hm:lastMarks [o1,o2] [b,c]=false:=by with_unfolding_all rfl):TX X (.Compare a [o1,o2] [b,c] pos) (m1||(m2||m3)) (cN (gN op op' m2 m3 f g h)):=qx (xQ ho ho' ha hb hc hm) fun _ _ _ z=>sj k k' (uv z)
def ah:qw:=fun E=>some ([],E)
def ad(m2:Bool)(f:bL)(g:qw):qw:=fun E=>(f E).bind fun a=>if m2&&a.1.isBr then none else (g a.2).map fun b=>(a.1::b.1,b.2)
def bu:lB:=fun E=>some ([],E)
def aH(f:bL)(g:lB):lB:=fun E=>(f E).bind fun a=>(frz a.2 a.1).bind fun b=>(g b.2).map fun c=>(b.1::c.1,c.2)
def ee(f:lB):bL:=fun E=>(f E).bind fun a=>if a.1.length≤1000000 then some (.sh (.tuple a.1),a.2)else none
def cG(f:lB):bL:=fun E=>(f E).bind fun a=>if a.1.length≤1000000 then some (.ow a.1,a.2)else none
section
variable {X:Cx} {e:Expr} {es:List Expr} {m1 m2:Bool} {f:bL} {g:qw} {d:lB} {pos:Pos} {K:Frag}
theorem av:AX X [] false ah:=by
 refine qy iH fun σ H Q z=>?_
 obtain⟨B,E,xs,Xs,res,E',fr,cl,e,q⟩:=z
 cases e
 exact q [] H rfl fr
theorem af(ha:EX X e m1 f)(hr:AX X es m2 g)(hs:starEach (e::es) X.env=(false,eval e X.env)::starEach es X.env:=by rfl):AX X (e::es) (m1||m2) (ad m2 f g):=by
 refine qy (fT ha hr hs) fun σ H Q z=>?_
 obtain⟨B,E,xs,Xs,res,E',fr,cl,e,q⟩:=z
 obtain⟨⟨s,E1⟩,e1,e⟩:=Za.mp e
 by_cases hb:(m2&&s.isBr)=true
 ·rw[if_pos hb]at e;cases e
 rw[if_neg hb]at e
 obtain⟨⟨rs,E2⟩,e2,e⟩:=Zae.mp e
 cases e
 refine⟨B,E,xs,Xs,s,E1,fr,fun z=>cl (by simp[z]),e1,fun v1 H1 fr1=>?_⟩
 refine⟨B,E1,v1::xs,s::Xs,rs,E2,fr1,fun z=>Calm.cons (cl (by simp[z])) ?_,e2,fun vs H2 hl fr2=>?_⟩
 ·cases hs:s.isBr with
  |false=>rfl
  |true=>exact absurd (by simp[z,hs]) hb
 ·exact q (v1::vs) H2 (by simp[hl]) (by simpa using fr2)
theorem dl:DX X [] false bu:=by
 refine qy iH fun σ H Q z=>?_
 obtain⟨B,E,xs,Xs,res,E',fr,cl,e,q⟩:=z
 cases e
 exact q [] H rfl fr
theorem cr(ha:EX X e m1 f)(hr:DX X es m2 d)(hs:starEach (e::es) X.env=(false,eval e X.env)::starEach es X.env:=by rfl):DX X (e::es) (m1||m2) (aH f d):=by
 refine qy (fT ha hr hs) fun σ H Q z=>?_
 obtain⟨B,E,xs,Xs,res,E',fr,cl,e,q⟩:=z
 obtain⟨⟨s,E1⟩,e1,e⟩:=Za.mp e
 obtain⟨⟨d1,E2⟩,e2,e⟩:=Za.mp e
 obtain⟨⟨rs,E3⟩,e3,e⟩:=Zae.mp e
 cases e
 refine⟨B,E,xs,Xs,s,E1,fr,fun z=>cl (by simp[z]),e1,fun v1 H1 ⟨F,A,fr1⟩=>?_⟩
 obtain⟨F2,A2,fr2⟩:=fr1.frz0 e2
 refine⟨B,E2,v1::xs,.sh d1::Xs,rs,E3,⟨F2,A2,fr2⟩,fun z=>Calm.cons (cl (by simp[z])) rfl,e3,fun vs H2 hl fr2=>?_⟩
 exact q (v1::vs) H2 (by simp[hl]) (by simpa using fr2)
theorem FrF.shsR{B F:Hp}{σ:lC}{H:Hp}{E:List Sl}{xs:List V}{Xs:List Sl}:∀{us:List V} {es:List PyData} {A:List Addr},us.length=es.length→FrF K B F A σ H E (us++xs) (es.map .sh++Xs)→RpA K F us es∧∃A',FrF K B F A' σ H E xs Xs
 |[],[],A,_,h=>⟨.nil,A,h⟩
 |u::us,e::es,A,hl,h=>by
  obtain⟨v,A1,ev,rfl,w,ew,r⟩:=h.ext (k:=0) rfl
  cases ev;cases ew
  obtain⟨A',h'⟩:=FrF.pop (xs:=us++xs) (Xs:=es.map .sh++Xs) h
  obtain⟨r',q⟩:=FrF.shsR (by simpa using hl) h'
  exact⟨.cons r r',q⟩
 |[],_::_,_,e,_=>by cases e
 |_::_,[],_,e,_=>by cases e
theorem FrF.shs{B F:Hp}{σ:lC}{H:Hp}{E:List Sl}{xs:List V}{Xs:List Sl}{us:List V}{es:List PyData}{A:List Addr}(hl:us.length=es.length)(h:FrF K B F A σ H E (us.reverse++xs) (es.reverse.map .sh++Xs)):RpA K F us es∧∃A',FrF K B F A' σ H E xs Xs:=by
 obtain⟨r,q⟩:=FrF.shsR (by simpa using hl) h
 have:=r.rev
 rw[List.reverse_reverse,List.reverse_reverse]at this
 exact⟨this,q⟩
theorem j4{x1}(h:DX X es m1 d):EX X (.Tuple es x1 pos) m1 (ee d):=by
 refine cf (CK h) fun σ H Q z=>?_
 obtain⟨B,E,xs,Xs,res,E',fr,cl,e,q⟩:=z
 obtain⟨⟨ds,E1⟩,e1,e⟩:=Za.mp e
 simp only at e
 split at e
 ·rename_i hl
  cases e
  refine⟨B,E,xs,Xs,ds,_,fr,cl,e1,fun vs H1 hv ⟨F,A,fr1⟩=>?_⟩
  obtain⟨r,A',fr2⟩:=fr1.shs hv
  exact⟨ie (by omega),fun p hp=>q _ _ ⟨_,_,fr2.newt r hp⟩⟩
 ·cases e
theorem fA(h:DX X es m1 d):EX X (.List es pos) m1 (cG d):=by
 refine cf (CL h) fun σ H Q z=>?_
 obtain⟨B,E,xs,Xs,res,E',fr,cl,e,q⟩:=z
 obtain⟨⟨ds,E1⟩,e1,e⟩:=Za.mp e
 simp only at e
 split at e
 ·rename_i hl
  cases e
  refine⟨B,E,xs,Xs,ds,_,fr,cl,e1,fun vs H1 hv ⟨F,A,fr1⟩=>?_⟩
  obtain⟨r,A',fr2⟩:=fr1.shs hv
  exact⟨ie (by omega),fun p hp=>q _ _ ⟨_,_,fr2.newl r hp⟩⟩
 ·cases e
end
def uB(ds:List PyData)(lo hi:Option Int):List PyData:=(ds.drop (HT.nr ds.length 0 lo)).take (HT.nr ds.length ds.length hi - HT.nr ds.length 0 lo)
def fU:P2:=fun E s1 s2=>(look E s1).bind fun d1=>(look E s2).bind fun d2=>match d2 with
 |.int i=>match d1 with
  |.list ds=>(atI ds i).map fun d=>(if eL E s1&& !cS d then .br d else .sh d,E)
  |.tuple ds=>(atI ds i).map fun d=>(if eL E s1&& !cS d then .br d else .sh d,E)
  |.str z=>if z.length≤1000000 then (atI z.cps.toList i).map fun c=>(.sh (.str ⟨#[c]⟩),E)else none
  |_=>none
 |_=>none
section
variable {K:Frag} {H:Hp}
theorem RpA.atI{vs:List V}{ds:List PyData}{i:Int}{d:PyData}(h:RpA K H vs ds)(e:L2.atI ds i=some d):∃v,L2.atI vs i=some v∧Rp K H v d:=by
 unfold L2.atI at e ⊢
 obtain⟨j,e1,e2⟩:=Za.mp e
 obtain⟨v,ev,r⟩:=h.get e2
 exact⟨v,by rw[h.len,e1];exact ev,r⟩
theorem FrF.item{B F:Hp}{A:List Addr}{σ:lC}{E:List Sl}{xs:List V}{Xs:List Sl}{v1 v2 v:V}{s1 s2:Sl}{d:PyData}(fr:FrF K B F A σ H E (v2::v1::xs) (s2::s1::Xs))(r:Rp K H v d)(f:eL E s1=false→Rp K F v d):
  Frm K B σ H E (v::xs) ((if eL E s1&& !cS d then .br d else .sh d)::Xs):=by
 by_cases hc:(eL E s1&& !cS d)=true
 ·rw[if_pos hc]
  exact fr.res2 ⟨rfl,v,rfl,r⟩
 ·rw[if_neg hc]
  refine fr.res2 ⟨rfl,v,rfl,?_⟩
  cases hh:eL E s1 with
  |false=>exact f hh
  |true=>
   rw[hh]at hc
   exact fr.cold r (by simpa using hc)
theorem CZ:i9 K (F9 K) fU:=by
 intro B F A σ H E xs Xs v1 v2 s1 s2 res E' Q fr e q
 obtain⟨d1,e1,e⟩:=Za.mp e
 obtain⟨d2,e2,e⟩:=Za.mp e
 obtain⟨r1,f1⟩:=fr.look1 e1
 have r2:=(fr.look0 e2).1
 split at e
 ·cases r2
  split at e
  ·obtain⟨d,ed,e⟩:=Zae.mp e
   cases e
   cases hh:eL E s1 with
   |false=>
    obtain⟨a,vs,rfl,h1,h2⟩:=f1 hh
    obtain⟨v,ev,rv⟩:=h2.atI ed
    have z:=fr.item (rv.same fr.fh) fun _=>rv
    rw[hh]at z q
    exact .inl ⟨_,_,_,v,rfl,rfl,h1,ev,q _ _ z⟩
   |true=>
    cases r1 with
    |lst h1 h2=>
     obtain⟨v,ev,rv⟩:=h2.atI ed
     have z:=fr.item rv fun h=>absurd (hh.symm.trans h) (by decide)
     rw[hh]at z q
     exact .inl ⟨_,_,_,v,rfl,rfl,h1,ev,q _ _ z⟩
  ·obtain⟨d,ed,e⟩:=Zae.mp e
   cases e
   cases hh:eL E s1 with
   |false=>
    have h0:Rp K F v1 _:=f1 hh
    cases h0 with
    |tup h1 h2=>
     obtain⟨v,ev,rv⟩:=h2.atI ed
     have z:=fr.item (rv.same fr.fh) fun _=>rv
     rw[hh]at z q
     exact .inr (.inl ⟨_,_,_,v,rfl,rfl,fr.fh.tup h1,ev,q _ _ z⟩)
   |true=>
    cases r1 with
    |tup h1 h2=>
     obtain⟨v,ev,rv⟩:=h2.atI ed
     have z:=fr.item rv fun h=>absurd (hh.symm.trans h) (by decide)
     rw[hh]at z q
     exact .inr (.inl ⟨_,_,_,v,rfl,rfl,h1,ev,q _ _ z⟩)
  ·split at e
   ·rename_i hl
    obtain⟨c,ec,e⟩:=Zae.mp e
    cases e;cases r1
    exact .inr (.inr ⟨_,_,c,rfl,rfl,ie hl,ec,q _ _ (fr.res2 ⟨rfl,_,rfl,.str _⟩)⟩)
   ·cases e
  ·cases e
 ·cases e
end
end PL
namespace L2
open PySem PySem.Spec PyProof.Rows
section
variable {κ:Type} [DecidableEq κ]
def mP(kvs:List (κ×V))(k:κ):Option V:=(kvs.find? fun kv=>decide (kv.1=k)).map (·.2)
def sk(kvs:List (κ×V))(k:κ)(v:V):List (κ×V):=
 if (kvs.any fun kv=>decide (kv.1=k))=true then kvs.map (fun kv=>if kv.1=k then (kv.1,v)else kv)else kvs++[(k,v)]
def BZ(kvs:List (κ×V))(k:κ):List (κ×V):=kvs.filter fun kv=>decide (kv.1≠k)
theorem nE{p:κ×V}{r:List (κ×V)}{k:κ}(e:p.1=k):mP (p::r) k=some p.2:=by simp[mP,List.find?_cons,e]
theorem nG{p:κ×V}{r:List (κ×V)}{k:κ}(e:¬p.1=k):mP (p::r) k=mP r k:=by simp[mP,List.find?_cons,e]
theorem sm(k:κ):∀kvs:List (κ×V),(kvs.any fun kv=>decide (kv.1=k))=(mP kvs k).isSome
 |[]=>rfl
 |p::r=>by
  rw[List.any_cons]
  by_cases e:p.1=k
  ·simp only[nE e,decide_eq_true e,Bool.true_or,Option.isSome_some]
  ·rw[nG e,decide_eq_false e,Bool.false_or];exact sm k r
theorem RelO.isSome_eq{o:Option V}{u:Option Value}(r:RelO o u):o.isSome=u.isSome:=by
 cases o with
 |none=>cases u with
  |none=>rfl
  |some _=>exact(show False from r).elim
 |some _=>cases u with
  |none=>exact(show False from r).elim
  |some _=>rfl
theorem RelO.getD{o:Option V}{u:Option Value}{d:V}{d':Value}(r:RelO o u)(rd:RelV d d'):RelV (o.getD d) (u.getD d'):=by
 cases o with
 |none=>cases u with
  |none=>exact rd
  |some _=>exact(show False from r).elim
 |some _=>cases u with
  |none=>exact(show False from r).elim
  |some _=>exact r
theorem KV.val{kvs:List (κ×V)}{vs:List (κ×Value)}(r:KV kvs vs)(k:κ):RelO (mP kvs k) (valueAt vs k):=by
 unfold KV at r
 induction r with
 |nil=>exact True.intro
 | @cons p q ps qs h t ih=>
  obtain⟨h1,h2⟩:=h
  by_cases e:p.1=k
  ·have e':q.1=k:=h1.symm.trans e
   have b:valueAt (q::qs) k=some q.2:=by simp[valueAt,List.find?_cons,e']
   rw[nE e,b];exact h2
  ·have e':¬q.1=k:=fun z=>e (h1.trans z)
   have b:valueAt (q::qs) k=valueAt qs k:=by simp[valueAt,List.find?_cons,e']
   rw[nG e,b];exact ih
theorem KV.any{kvs:List (κ×V)}{vs:List (κ×Value)}(r:KV kvs vs)(k:κ):(kvs.any fun kv=>decide (kv.1=k))=vs.any fun kv=>decide (kv.1=k):=by
 unfold KV at r
 induction r with
 |nil=>rfl
 |cons h t ih=>rw[List.any_cons,List.any_cons,ih,h.1]
theorem KV.repl{kvs:List (κ×V)}{vs:List (κ×Value)}(r:KV kvs vs)(k:κ){y:V}{u:Value}(ry:RelV y u):
  KV (kvs.map fun kv=>if kv.1=k then (kv.1,y)else kv) (vs.map fun kv=>if kv.1=k then (kv.1,u)else kv):=by
 unfold KV at r ⊢
 induction r with
 |nil=>exact .nil
 | @cons p q ps qs h t ih=>
  rw[ce,ce]
  refine .cons ?_ ih
  obtain⟨h1,h2⟩:=h
  by_cases e:p.1=k
  ·rw[if_pos e,if_pos (h1.symm.trans e)];exact⟨h1,ry⟩
  ·rw[if_neg e,if_neg (fun z=>e (h1.trans z))];exact⟨h1,h2⟩
theorem KV.put{kvs:List (κ×V)}{vs:List (κ×Value)}(r:KV kvs vs)(k:κ){y:V}{u:Value}(ry:RelV y u):KV (sk kvs k y) (stored vs k u):=by
 unfold sk stored
 rw[r.any k]
 by_cases e:(vs.any fun kv=>decide (kv.1=k))=true
 ·rw[if_pos e,if_pos e];exact r.repl k ry
 ·rw[if_neg e,if_neg e];exact Paired.snoc r ⟨rfl,ry⟩
theorem KV.drop{kvs:List (κ×V)}{vs:List (κ×Value)}(r:KV kvs vs)(k:κ):KV (BZ kvs k) (without vs k):=by
 unfold KV at r ⊢
 unfold BZ without
 induction r with
 |nil=>exact .nil
 | @cons p q ps qs h t ih=>
  obtain⟨h1,h2⟩:=h
  rw[List.filter_cons,List.filter_cons]
  by_cases e:p.1=k
  ·have a:¬decide (p.1≠k)=true:=by simp[e]
   have b:¬decide (q.1≠k)=true:=by simp[h1.symm.trans e]
   rw[if_neg a,if_neg b];exact ih
  ·have e':¬q.1=k:=fun z=>e (h1.trans z)
   have a:decide (p.1≠k)=true:=by simp[e]
   have b:decide (q.1≠k)=true:=by simp[e']
   rw[if_pos a,if_pos b];exact .cons ⟨h1,h2⟩ ih
theorem KV.keys{kvs:List (κ×V)}{vs:List (κ×Value)}(r:KV kvs vs):kvs.map (·.1)=vs.map (·.1):=by
 unfold KV at r
 induction r with
 |nil=>rfl
 |cons h t ih=>rw[ce,ce,ih,h.1]
theorem KV.length{kvs:List (κ×V)}{vs:List (κ×Value)}(r:KV kvs vs):kvs.length=vs.length:=Paired.length r
end
abbrev KT(H:Hp):List (List e8×V)→List (List e8×Addr×Value)→Prop:=Paired fun p q=>p.1=q.1∧H q.2.1=some (.tup (p.1.map kV))∧RelV p.2 q.2.2
theorem KT.val{H:Hp}{kvs:List (List e8×V)}{xs:List (List e8×Addr×Value)}(r:KT H kvs xs)(k:List e8):RelO (mP kvs k) ((atKey xs k).map (·.2)):=by
 induction r with
 |nil=>exact True.intro
 | @cons p q ps qs h t ih=>
  obtain⟨h1,_,h2⟩:=h
  by_cases e:p.1=k
  ·have e':q.1=k:=h1.symm.trans e
   have b:atKey (q::qs) k=some q.2:=by simp[atKey,List.find?_cons,e']
   rw[nE e,b];exact h2
  ·have e':¬q.1=k:=fun z=>e (h1.trans z)
   have b:atKey (q::qs) k=atKey qs k:=by simp[atKey,List.find?_cons,e']
   rw[nG e,b];exact ih
theorem KT.repl{H:Hp}{kvs:List (List e8×V)}{xs:List (List e8×Addr×Value)}(r:KT H kvs xs)(k:List e8){y:V}{u:Value}(ry:RelV y u):
  KT H (kvs.map fun kv=>if kv.1=k then (kv.1,y)else kv) (xs.map (putAt k u)):=by
 induction r with
 |nil=>exact .nil
 | @cons p q ps qs h t ih=>
  rw[ce,ce]
  refine .cons ?_ ih
  obtain⟨h1,h2,h3⟩:=h
  unfold putAt
  by_cases e:p.1=k
  ·rw[if_pos e,if_pos (h1.symm.trans e)];exact⟨h1,h2,ry⟩
  ·rw[if_neg e,if_neg (fun z=>e (h1.trans z))];exact⟨h1,h2,h3⟩
theorem KT.put{H:Hp}{kvs:List (List e8×V)}{xs:List (List e8×Addr×Value)}(r:KT H kvs xs)(k:List e8){b:Addr}{y:V}{u:Value}(hb:H b=some (.tup (k.map kV)))(ry:RelV y u):
  KT H (sk kvs k y) (storedH xs k b u):=by
 have e:(kvs.any fun kv=>decide (kv.1=k))=(atKey xs k).isSome:=by
  rw[sm,(r.val k).isSome_eq,Option.isSome_map]
 unfold sk storedH
 rw[e]
 by_cases q:(atKey xs k).isSome=true
 ·rw[if_pos q,if_pos q];exact r.repl k ry
 ·rw[if_neg q,if_neg q];exact Paired.snoc r ⟨rfl,hb,ry⟩
theorem KT.keeps{H H':Hp}{kvs:List (List e8×V)}{xs:List (List e8×Addr×Value)}(r:KT H kvs xs)(ht:∀b ys,H b=some (.tup ys)→H' b=some (.tup ys)):KT H' kvs xs:=
 Paired.mapP r fun _ _ z=>⟨z.1,ht _ _ z.2.1,z.2.2⟩
section
variable {P:Program} {w:World} {H:Hp} {h:Heap} {a:Addr}
theorem Ew{u:HO}(ok:HOk P w H h)(e:Rd H a u):ObjOk P w H h a u:=e.ok ok
theorem Ex{kvs:List (e8×V)}(ok:HOk P w H h)(e:Rd H a (.dK kvs)):kvs.length≤sizeLine∧(a == sysModules)=false∧∃vs,KV kvs vs∧h.DictOf (mV P w) a vs:=
 show ObjOk P w H h a (.dK kvs)from Ew ok e
end
def DGet(H:Hp)(a:Addr)(y:V)(r:Option V):Prop:=
 (∃kvs k,Rd H a (.dK kvs)∧y=kV k∧r=mP kvs k)∨∃kvs k b,Rd H a (.dT kvs)∧y=.ref b∧H b=some (.tup (k.map kV))∧r=mP kvs k
def DPut(H:Hp)(a:Addr)(y v:V)(H':Hp):Prop:=
 (∃kvs k,H a=some (.dK kvs)∧y=kV k∧kvs.length < sizeLine∧H'=upd H a (.dK (sk kvs k v)))∨
 ∃kvs k b,H a=some (.dT kvs)∧y=.ref b∧H b=some (.tup (k.map kV))∧kvs.length < sizeLine∧H'=upd H a (.dT (sk kvs k v))
theorem DGet.k{H:Hp}{a:Addr}{kvs:List (e8×V)}{k:e8}(e:H a=some (.dK kvs)):DGet H a (kV k) (mP kvs k):=.inl ⟨kvs,k,.inl e,rfl,rfl⟩
theorem DGet.t{H:Hp}{a b:Addr}{kvs:List (List e8×V)}{k:List e8}(e:H a=some (.dT kvs))(eb:H b=some (.tup (k.map kV))):DGet H a (.ref b) (mP kvs k):=.inr ⟨kvs,k,b,.inl e,rfl,eb,rfl⟩
theorem DPut.k{H:Hp}{a:Addr}{kvs:List (e8×V)}{k:e8}{v:V}(e:H a=some (.dK kvs))(hl:kvs.length < sizeLine):DPut H a (kV k) v (upd H a (.dK (sk kvs k v))):=.inl ⟨kvs,k,e,rfl,hl,rfl⟩
theorem DPut.t{H:Hp}{a b:Addr}{kvs:List (List e8×V)}{k:List e8}{v:V}(e:H a=some (.dT kvs))(eb:H b=some (.tup (k.map kV)))(hl:kvs.length < sizeLine):
  DPut H a (.ref b) v (upd H a (.dT (sk kvs k v))):=.inr ⟨kvs,k,b,e,rfl,eb,hl,rfl⟩
section
variable {X:Cx} {pins:List (Addr×Obj)} {σ:St} {H:Hp} {s:Shared} {a:Addr} {y v:V} {u r:Value} {o:Option V} {A:Around} {E:Value→Shared→Prop}
theorem Inv.big(I:Inv X pins σ H s):sysModules < s.heap.objs.size:=by
 have h:mainGlobals < s.heap.objs.size:=(I.mod.glob.keeps I.bk).lt
 exact Nat.lt_trans (by decide) h
end
structure M1 (X:Cx) (o:Expr) (m:Str) (apos:Pos) (e:Expr) (cpos:Pos):Prop where
 base:attributeBase o m X.env (eval o X.env)=eval o X.env
 few:((backTo cpos (starEach [e] X.env)).all (fun x=> !x.1)&&(backToKw cpos (keywordEach [] X.env)).all (fun x=>x.1.isSome)
  &&decide (([e]:List Expr).length+([]:List Keyword).length+(if ([]:List Keyword).isEmpty then 0 else 1) < 30))=true
 line:(apos.endLine == cpos.line)=true
 trees:backTo cpos (starEach [e] X.env)=[(false,eval e X.env)]
end L2
namespace PL
open PySem L2 Nh
theorem gb{X:Cx}{a b:Expr}{m1 m2:Bool}{f g:bL}{pos:Pos}(ha:EX X a m1 f)(hb:EX X b m2 g)(hs:vw b:=by exact fun _ _=>rfl):EX X (.Subscript a b pos) (m1||m2) (ae fU m2 f g):=cf (Eg CN ha hb hs) fun _ _ _ h=>qz CZ h
abbrev C3:=List Sl→Option (Option Int×List Sl)
def ro(K:Frag)(m:Bool)(f:C3):TO:=fun σ H Q=>∃B E xs Xs o E',Frm K B σ H E xs Xs∧(m=true→Calm Xs)∧f E=some (o,E')∧∀H',Frm K B σ H' E' xs Xs→Q o H'
def OX(X:Cx)(e:Option Expr)(m:Bool)(f:C3):Prop:=PO X e (ro X.K m f)
def gQ:C3:=fun E=>some (none,E)
def gR(f:bL):C3:=fun E=>(f E).bind fun a=>match look a.2 a.1 with
 |some (.int i)=>some (some i,a.2)
 |_=>none
section
variable {X:Cx} {e:Expr} {lo hi:Option Expr} {m1 m2 m3:Bool} {f:bL} {g h:C3} {pos p2:Pos} {K:Frag}
theorem yn{e:Option Expr}{t t':TO}(h:PO X e t)(k:∀σ H Q,t' σ H Q→t σ H Q):PO X e t':=fun pins s σ H Q I q=>h pins s σ H Q I (k σ H Q q)
theorem qC:OX X none false gQ:=yn Al fun σ H Q z=>by
 obtain⟨B,E,xs,Xs,res,E',fr,cl,e,q⟩:=z
 cases e
 exact q _ fr
theorem qD(he:EX X e m1 f):OX X (some e) m1 (gR f):=yn (Am he) fun σ H Q z=>by
 obtain⟨B,E,xs,Xs,res,E',fr,cl,e,q⟩:=z
 obtain⟨⟨s,E1⟩,e1,e⟩:=Za.mp e
 refine⟨B,E,xs,Xs,s,E1,fr,cl,e1,fun v1 H1 ⟨F,A,fr1⟩=>?_⟩
 simp only at e
 split at e
 ·rename_i i l
  cases e
  have r:=(fr1.look0 l).1
  cases r
  obtain⟨A',fr2⟩:=fr1.pop
  exact⟨i,rfl,q _ ⟨F,A',fr2⟩⟩
 ·cases e
theorem RpA.cut{F:Hp}{vs:List V}{ds:List PyData}(h:RpA K F vs ds)(lo hi:Option Int):RpA K F (wv vs lo hi) (uB ds lo hi):=by
 unfold wv uB
 rw[h.len]
 exact(h.drop _).take _
end
def be(E:List Sl):List Sl→Option (List PyData)
 |[]=>some []
 |s::ss=>(look E s).bind fun d=>(be E ss).map fun ds=>d::ds
theorem lookA_iff{E:List Sl}:∀{ss:List Sl} {ds:List PyData},be E ss=some ds↔Paired (fun s d=>look E s=some d) ss ds
 |[],ds=>⟨fun h=>by cases h;exact .nil,fun h=>by cases h;rfl⟩
 |s::ss,ds=>by
  constructor
  ·intro h
   obtain⟨d,h1,h⟩:=Za.mp h
   obtain⟨es,h2,h⟩:=Zae.mp h
   cases h
   exact .cons h1 (lookA_iff.mp h2)
  ·intro h
   cases h with
   |cons h1 h2=>simp[be,h1,lookA_iff.mpr h2]
theorem wE{E:List Sl}{ss:List Sl}{ds:List PyData}(h:be E ss=some ds):be E ss.reverse=some ds.reverse:=lookA_iff.mpr (jY (lookA_iff.mp h))
section
variable {X:Cx} {K:Frag} {B F:Hp} {σ:lC} {H:Hp} {E:List Sl} {xs:List V} {Xs:List Sl}
theorem FrF.looksR:∀{us:List V} {ts:List Sl} {es:List PyData} {A:List Addr},us.length=ts.length→FrF K B F A σ H E (us++xs) (ts++Xs)→be E ts=some es→RpA K H us es∧∃A',FrF K B F A' σ H E xs Xs
 |[],[],es,A,_,h,e=>by cases e;exact⟨.nil,A,h⟩
 |u::us,t::ts,es,A,hl,h,e=>by
  obtain⟨d,h1,e⟩:=Za.mp e
  obtain⟨es',h2,e⟩:=Zae.mp e
  cases e
  have r:=(FrF.look0 (xs:=us++xs) (Xs:=ts++Xs) h h1).1
  obtain⟨A',h'⟩:=FrF.pop (xs:=us++xs) (Xs:=ts++Xs) h
  obtain⟨r',q⟩:=FrF.looksR (by simpa using hl) h' h2
  exact⟨.cons r r',q⟩
 |[],_::_,_,_,e,_,_=>by cases e
 |_::_,[],_,_,e,_,_=>by cases e
theorem FrF.looks{us:List V}{ts:List Sl}{es:List PyData}{A:List Addr}(hl:us.length=ts.length)(h:FrF K B F A σ H E (us.reverse++xs) (ts.reverse++Xs))(e:be E ts=some es):RpA K H us es∧∃A',FrF K B F A' σ H E xs Xs:=by
 obtain⟨r,q⟩:=FrF.looksR (by simpa using hl) h (wE e)
 have:=r.rev
 rw[List.reverse_reverse,List.reverse_reverse]at this
 exact⟨this,q⟩
end
def AH(K:Frag)(r:List V→Hp→VK→Prop)(op:List PyData→Option PyData):Prop:=∀(ds:List PyData) (d:PyData) (vs:List V) (H:Hp) (Q:VK),op ds=some d→RpA K H vs ds→∃v,BU d=some v∧(Q v H→r vs H Q)
def bO(op:List PyData→Option PyData)(g:qw):bL:=fun E=>(g E).bind fun a=>(be a.2 a.1).bind fun ds=>(op ds).map fun d=>(.sh d,a.2)
theorem uC{K:Frag}{r:List V→Hp→VK→Prop}{op:List PyData→Option PyData}(hp:AH K r op){m:Bool}{g:qw}{σ:lC}{H:Hp}{Q:VK}(h:rd K m (bO op g) σ H Q):Fy r (ra K m g) σ H Q:=by
 obtain⟨B,E,xs,Xs,res,E',fr,cl,e,q⟩:=h
 obtain⟨⟨rs,E1⟩,e1,e⟩:=Za.mp e
 obtain⟨ds,e2,e⟩:=Za.mp e
 obtain⟨d,e3,e⟩:=Zae.mp e
 cases e
 refine⟨B,E,xs,Xs,rs,E1,fr,cl,e1,fun vs H1 hl ⟨F,A,fr1⟩=>?_⟩
 obtain⟨r1,A',fr2⟩:=fr1.looks hl e2
 obtain⟨v,hv,k⟩:=hp ds d vs H1 Q e3 r1
 exact k (q v H1 ⟨F,A',fr2.push ⟨rfl,v,rfl,nv hv⟩⟩)
def ef:List PyData→Option PyData
 |[.list xs]=>some (.int xs.length)
 |[.tuple xs]=>some (.int xs.length)
 |[.str z]=>if z.length≤1000000 then some (.int z.length)else none
 |_=>none
theorem RpA.one{K:Frag}{H:Hp}{vs:List V}{d:PyData}(h:RpA K H vs [d]):∃v,vs=[v]∧Rp K H v d:=by
 cases h with
 |cons h t=>cases t;exact⟨_,rfl,h⟩
theorem RpA.two{K:Frag}{H:Hp}{vs:List V}{d e:PyData}(h:RpA K H vs [d,e]):∃v u,vs=[v,u]∧Rp K H v d∧Rp K H u e:=by
 cases h with
 |cons h t=>
  obtain⟨u,rfl,r⟩:=t.one
  exact⟨_,_,rfl,h,r⟩
section
variable {X:Cx} {e:Expr} {es:List Expr} {m1:Bool} {g:qw} {p pos:Pos} {K:Frag}
abbrev Ey(K:Frag):List V→Hp→VK→Prop:=fun xs H Q=>(∃p ys,xs=[.ref p]∧(SqL K H p ys∨SqT K H p ys)∧Q (.int ys.length) H)∨(∃z,xs=[.str z]∧z.length≤sizeLine∧Q (.int z.length) H)
theorem AI:AH K (Ey K) ef:=fun ds d vs H Q e r=>by
 unfold ef at e
 split at e
 ·cases e
  obtain⟨v,rfl,r'⟩:=r.one
  cases r' with
  |lst h1 h2=>exact⟨_,rfl,fun q=>.inl ⟨_,_,rfl,.inl h1,by rw[h2.len];exact q⟩⟩
 ·cases e
  obtain⟨v,rfl,r'⟩:=r.one
  cases r' with
  |tup h1 h2=>exact⟨_,rfl,fun q=>.inl ⟨_,_,rfl,.inr h1,by rw[h2.len];exact q⟩⟩
 ·split at e
  ·rename_i hl
   cases e
   obtain⟨v,rfl,r'⟩:=r.one
   cases r'
   exact⟨_,rfl,fun q=>.inr ⟨_,rfl,ie hl,q⟩⟩
  ·cases e
 ·cases e
theorem nH {x:Str} {id:String} {r:List V→Hp→VK→Prop} {op:List PyData→Option PyData} (hp:AH X.K r op) (hc:CallR X (.builtin id) r) (hg:Gl X x) (hm:X.mg x=none) (hv:bootBuiltins x=some (.builtin id)) (ha:AX X (e::es) m1 g) (hn:x≠"__name__":=by decide) (hdb:(x == ("__debug__":Str))=false:=by decide)
  (he:starEach (e::es) X.env=(false,eval e X.env)::starEach es X.env:=by rfl) (hpl:(backTo pos (starEach es X.env)).any (·.1)=false:=by rfl):EX X (.Call (.Name x p) (e::es) [] pos) m1 (bO op g):=
 cf (nq hc hg hm hv ha hn hdb he hpl) fun _ _ _ h=>uC hp h
theorem ii (hg:Gl X "len") (hm:X.mg "len"=none) (ha:AX X [e] m1 g) (he:starEach [e] X.env=[(false,eval e X.env)]:=by rfl):EX X (.Call (.Name "len" p) [e] [] pos) m1 (bO ef g):=nH AI (CallR.or qk ql) hg hm PySem.boot_len ha (by decide) (by decide) he rfl
end
def eD(g:bL):bL:=fun E=>(g E).bind fun a=>match look a.2 a.1 with
 |some (.list ds)=>if !eL a.2 a.1||bH ds then some (.ow ds,a.2)else none
 |some (.tuple ds)=>if !eL a.2 a.1||bH ds then some (.ow ds,a.2)else none
 |_=>none
section
variable {X:Cx} {e:Expr} {m1:Bool} {f:bL} {p pos:Pos} {K:Frag}
theorem mX (hg:Gl X "list") (hm:X.mg "list"=none) (ha:EX X e m1 f) (he:starEach [e] X.env=[(false,eval e X.env)]:=by rfl):EX X (.Call (.Name "list" p) [e] [] pos) m1 (eD f):=by
 refine cf (lI qm hg hm PyProof.Rows.boot_list (fT ha iH he) (by decide) (by decide) he rfl) fun σ H Q z=>?_
 obtain⟨B,E,xs,Xs,res,E',fr,cl,e,q⟩:=z
 obtain⟨⟨s,E1⟩,e1,e⟩:=Za.mp e
 refine⟨B,E,xs,Xs,s,E1,fr,cl,e1,fun v1 H1 ⟨F,A,fr1⟩=>?_⟩
 obtain⟨A',fr2⟩:=fr1.pop
 simp only at e
 split at e
 ·rename_i ds ld
  split at e
  ·rename_i hc
   cases e
   obtain⟨a,vs,ev,h1,h2⟩:=fr1.items (k:=0) rfl ld hc
   cases ev
   exact⟨a,vs,rfl,.inl h1,fun l hl=>q _ _ ⟨F,_,fr2.newl h2 hl⟩⟩
  ·cases e
 ·rename_i ds ld
  split at e
  ·rename_i hc
   cases e
   obtain⟨r,f0⟩:=fr1.look0 ld
   cases hh:eL E' s with
   |false=>
    have h0:Rp X.K F v1 _:=f0 hh
    cases h0 with
    |tup h1 h2=>exact⟨_,_,rfl,.inr (fr1.fh.tup h1),fun l hl=>q _ _ ⟨F,_,fr2.newl h2 hl⟩⟩
   |true=>
    rw[hh]at hc
    cases r with
    |tup h1 h2=>exact⟨_,_,rfl,.inr h1,fun l hl=>q _ _ ⟨F,_,fr2.newl (fr1.coldA h2 (by simpa using hc)) hl⟩⟩
  ·cases e
 ·cases e
end
inductive Ty where
 |non |bool |int |str |list |tuple |dict
def Ty.name:Ty→String
 |.non=>"NoneType"
 |.bool=>"bool"
 |.int=>"int"
 |.str=>"str"
 |.list=>"list"
 |.tuple=>"tuple"
 |.dict=>"dict"
def Ty.is:Ty→Ty→Bool
 |.non,.non=>true
 |.bool,.bool=>true
 |.bool,.int=>true
 |.int,.int=>true
 |.str,.str=>true
 |.list,.list=>true
 |.tuple,.tuple=>true
 |.dict,.dict=>true
 |_,_=>false
def B3:PyData→Ty
 |.none=>.non
 |.bool _=>.bool
 |.int _=>.int
 |.str _=>.str
 |.list _=>.list
 |.tuple _=>.tuple
 |.dict _=>.dict
theorem Ez(K:Frag)(t n:Ty):PySem.W.kitOne K (.type t.name) (.type n.name)=some (t.is n):=by cases t <;> cases n <;> rfl
def nI(n:Ty)(d:PyData):Option PyData:=some (.bool ((B3 d).is n))
section
variable {X:Cx} {e:Expr} {m1:Bool} {f:bL} {p p2 pos:Pos}
theorem wF{pins:List (Addr×Obj)}{s:Shared}{σ:lC}{H:Hp}{x:V}{u:Value}{d:PyData}{n:Ty}{A:Around}{E:Value→Shared→Prop}{Q:Value→Shared→Prop}(I:Inv X pins σ H s)(rx:RelV x u)(rp:Rp X.K H x d)(h:∀tk,Q (.bool ((B3 d).is n)) {s with toks:=tk}):
  wpAny (model X.prog X.w) A (call (.builtin "isinstance") [u,.type n.name]) Q E s:=by
 have e:=Ez X.K (B3 d) n
 cases rp with
 |non=>exact jx I rx .non e h
 |bl b=>exact jx I rx (.bl b) e h
 |int i=>exact jx I rx (.int i) e h
 |str y=>exact jx I rx (.str y) e h
 |lst h1 _=>
  cases rx
  obtain⟨its,rv,⟨o,n',e1,c,_,d⟩,_⟩:=I.list h1
  exact kia_one kitx_list I.kIn ⟨_,e1,c⟩ e (fun z=>nomatch z) h
 |tup h1 _=>
  cases rx
  obtain⟨its,rv,⟨o,e1,c,n',d⟩,_⟩:=I.tuple h1
  exact kia_one PySem.W.kitx_tuple I.kIn ⟨_,e1,c⟩ e (fun z=>nomatch z) h
 |dct h1 _=>
  cases rx
  obtain⟨_,_,vs,_,ob,es,ep,e1,c,_⟩:=Ex I.hok h1
  exact kia_one kitx_dict I.kIn ⟨_,e1,c.1⟩ e (fun z=>nomatch z) h
theorem wG(n:Ty):CallR X (.builtin "isinstance") (fun xs H Q=>∃x d,xs=[x,.ty n.name]∧Rp X.K H x d∧Q (.bl ((B3 d).is n)) H):=by
 intro pins s σ H xs us Q I r h
 obtain⟨x,d,rfl,rp,q⟩:=h
 obtain⟨u,w',rfl,ru,rw'⟩:=r.two
 cases(show w'=Value.type n.name from rw')
 exact wF I ru rp fun tk=>⟨.bl _,H,I.tok _,rfl,q⟩
theorem qE (n:Ty) (hg:Gl X "isinstance") (hm:X.mg "isinstance"=none) (ha:EX X e m1 f) {x:Str} (hgx:Gl X x) (hmx:X.mg x=none) (hbx:bootBuiltins x=some (.type n.name)) (hnx:x≠"__name__":=by decide) (hdx:(x == ("__debug__":Str))=false:=by decide)
  (he:starEach [e,.Name x p2] X.env=(false,eval e X.env)::starEach [.Name x p2] X.env:=by rfl) (he2:starEach [.Name x p2] X.env=[(false,eval (.Name x p2) X.env)]:=by rfl) (hpl:(backTo pos (starEach [.Name x p2] X.env)).any (·.1)=false:=by rfl):
  EX X (.Call (.Name "isinstance" p) [e,.Name x p2] [] pos) m1 (iI (nI n) f):=by
 have h2:PE X (.Name x p2) (tC (.ty n.name)):=zY (v:=.ty n.name) hgx hmx hbx rfl hnx hdx
 refine cf (nq (wG n) hg hm PyProof.Rows.boot_isinstance (fT ha (fT h2 iH he2) he) (by decide) (by decide) he hpl) fun σ H Q z=>?_
 obtain⟨B,E,xs,Xs,res,E',fr,cl,e,q⟩:=z
 obtain⟨⟨s,E1⟩,e1,e⟩:=Za.mp e
 obtain⟨d1,e2,e⟩:=Za.mp e
 cases e
 refine⟨B,E,xs,Xs,s,E1,fr,cl,e1,fun v1 H1 ⟨F,A,fr1⟩=>?_⟩
 obtain⟨A',fr2⟩:=fr1.pop
 exact⟨v1,d1,rfl,(fr1.look0 e2).1,q _ _ ⟨F,A',fr2.push ⟨rfl,_,rfl,.bl _⟩⟩⟩
end
end PL
namespace PL
open PySem L2 Nh
def vE(K:Frag)(H H':Hp)(v:V):Sl→Prop
 |.sh d=>Rp K (tups H') v d
 |.ow ds=>∃l vs,v=.ref l∧H l=none∧H' l=some (.lst vs)∧RpA K (tups H') vs ds
 |.tx ps=>∃t vs A,v=.ref t∧tups H' t=some (.tup vs)∧A.Nodup∧(∀a∈A,H a=none)∧PtsOk K (tups H') H' vs ps A
 |.od kvs=>∃l us A,v=.ref l∧(l::A).Nodup∧(∀a∈l::A,H a=none)∧H' l=some (.dK us)∧DlOk K (tups H') H' us kvs A
 |.br d=>Rp K H' v d
 |_=>False
def du(K:Frag)(c:List PyData→Option Sl):Sp:=fun vs H Q _=>∃ds r,c ds=some r∧RpA K H vs ds∧∀v H',Same H H'→vE K H H' v r→Q v H'
section
variable {K:Frag} {B F:Hp} {A N:List Addr} {σ:lC} {H H':Hp} {E:List Sl} {xs:List V} {Xs:List Sl} {v:V} {s:Sl}
theorem FrF.growN(h:FrF K B F A σ H E xs Xs)(g:Same H H')(hN:∀a∈N,H a=none∧((∃us,H' a=some (.lst us))∨∃us,H' a=some (.dK us))):FrF K B (fun b=>if b∈N then none else if b∈A then none else H' b) A σ H' E xs Xs:=by
 have h1:=h.grow g
 have nF:∀b o,F b=some o→b∉N:=fun b o e hb=>by
  have:=h.fh.free (hN b hb).1
  rw[this]at e;cases e
 have FF:Same F (fun b=>if b∈N then none else if b∈A then none else H' b):=fun b o e=>by
  have nA:b∉A:=fun hb=>by rw[h.fr b hb]at e;cases e
  show(if b∈N then none else if b∈A then none else H' b)=some o
  rw[if_neg (nF b o e),if_neg nA]
  exact g _ _ (h.fh _ _ e)
 have hA:∀b∈A,H' b=H b:=fun b hb=>by
  rcases h.mutA b hb with⟨_,z⟩ |⟨_,z⟩ <;> rw[z,g _ _ z]
 refine⟨h.bf.trans FF,fun b o e=>?_,fun b o e=>?_,h.sl.mono fun o s C _ hC q=>q.stay FF (fun b hb=>hA b (hC b hb)) fun _=>g,h.nd,fun a ha=>?_,h.len,h.pl⟩
 ·by_cases hb:b∈N
  ·rw[if_pos hb]at e;cases e
  ·rw[if_neg hb]at e;exact h1.fh _ _ e
 ·show(if b∈N then none else if b∈A then none else H' b)=some o
  by_cases hb:b∈N
  ·obtain⟨e1,e2⟩:=Option.filter_eq_some_iff.mp e
   rcases(hN b hb).2 with⟨us,z⟩ |⟨us,z⟩ <;> rw[z]at e1 <;> cases e1 <;> cases e2
  ·rw[if_neg hb];exact h1.tf _ _ e
 ·show(if a∈N then none else if a∈A then none else H' a)=none
  by_cases hb:a∈N
  ·rw[if_pos hb]
  ·rw[if_neg hb,if_pos ha]
theorem FrF.pushR(h:FrF K B F A σ H E xs Xs)(q:SlOk K F H σ (some v) s N)(nd:N.Nodup)(dj:∀a∈N,a∉A)(fr:∀a∈N,F a=none):FrF K B F (N++A) σ H E (v::xs) (s::Xs):=
 ⟨h.bf,h.fh,h.tf,.cons q h.sl,Zbh.mpr ⟨nd,h.nd,fun a ha b hb e=>dj a ha (e▸hb)⟩,fun a ha=>(Zan.mp ha).elim (fr a) (h.fr a),by simp[h.len],h.pl⟩
theorem FrF.told(h:FrF K B F A σ H E xs Xs)(g:Same H H')(q:vE K H H' v s):Frm K B σ H' E (v::xs) (s::Xs):=by
 cases s with
 |sh d=>
  have h1:=h.grow g
  exact⟨_,_,h1.push ⟨rfl,v,rfl,Rp.same h1.tf q⟩⟩
 |ow ds=>
  obtain⟨l,vs,rfl,hl,hl',r⟩:=q
  have h1:=h.growN (N:=[l]) g fun a ha=>by rw[Zaf.mp ha];exact⟨hl,.inl ⟨vs,hl'⟩⟩
  exact⟨_,_,h1.pushR (N:=[l]) ⟨l,vs,rfl,rfl,hl',r.same h1.tf⟩ (by simp) (fun a ha=>by rw[Zaf.mp ha];exact h.newA hl) fun a ha=>if_pos ha⟩
 |tx ps=>
  obtain⟨t,vs,N,rfl,ht,nd,hN,r⟩:=q
  have h1:=h.growN (N:=N) g fun a ha=>⟨hN a ha,.inl (r.some a ha)⟩
  exact⟨_,_,h1.pushR (N:=N) ⟨t,vs,rfl,h1.tf _ _ ht,r.stay h1.tf fun _ _=>rfl⟩ nd (fun a ha=>h.newA (hN a ha)) fun a ha=>if_pos ha⟩
 |no=>exact False.elim q
 |oi kvs=>exact False.elim q
 |od kvs=>
  obtain⟨l,us,N,rfl,nd,hN,hl,r⟩:=q
  have h1:=h.growN (N:=l::N) g fun a ha=>⟨hN a ha,(Zaq.mp ha).elim (fun z=>.inr ⟨us,z▸hl⟩) fun z=>.inl (r.some a z)⟩
  exact⟨_,_,h1.pushR (N:=l::N) ⟨l,us,N,rfl,rfl,hl,r.stay h1.tf fun _ _=>rfl⟩ nd (fun a ha=>h.newA (hN a ha)) fun a ha=>if_pos ha⟩
 |al i=>exact False.elim q
 |br d=>
  have h1:=h.grow g
  exact⟨_,_,h1.push ⟨rfl,v,rfl,q⟩⟩
end
def ag(c:List PyData→Option Sl)(g:qw):bL:=fun E=>(g E).bind fun a=>(be a.2 a.1).bind fun ds=>(c ds).map fun r=>(r,a.2)
theorem aC{X:Cx}{k:Nat}{x:Str}{ps:List Str}{c:List PyData→Option Sl}{p pos:Pos}{e:Expr}{es:List Expr}{m:Bool}{g:qw}(D:Own X.prog X.w X.K X.mg X.base k x ps (du X.K c))(hr:Room k X.A)(hg:Gl X x)(ha:AX X (e::es) m g)
  (hdb:(x == ("__debug__":Str))=false:=by decide) (he:starEach (e::es) X.env=(false,eval e X.env)::starEach es X.env:=by rfl) (hpl:(backTo pos (starEach es X.env)).any (·.1)=false:=by rfl):
  EX X (.Call (.Name x p) (e::es) [] pos) m (ag c g):=by
 refine cf (CQ D hr hg ha hdb he hpl) fun σ H Q z=>?_
 obtain⟨B,E,xs,Xs,res,E',fr,cl,e,q⟩:=z
 obtain⟨⟨rs,E1⟩,e1,e⟩:=Za.mp e
 obtain⟨ds,e2,e⟩:=Za.mp e
 obtain⟨r,e3,e⟩:=Zae.mp e
 cases e
 refine⟨B,E,xs,Xs,rs,E1,fr,cl,e1,fun vs H1 hl ⟨F,A,fr1⟩=>?_⟩
 obtain⟨r1,A',fr2⟩:=fr1.looks hl e2
 exact⟨ds,res,e3,by rw[List.append_nil];exact r1,fun v H' g q'=>q v H' (fr2.told g q')⟩
def bb(i:Nat)(f:bL):bL:=fun E=>match E[i]? with
 |some (.ow _)=>(f E).bind fun a=>(frz a.2 a.1).bind fun b=>match b.2[i]? with
  |some (.ow ds)=>if ds.length < 1000000 then some (.sh .none,b.2.set i (.ow (ds++[b.1])))else none
  |_=>none
 |_=>none
def jL(i:Nat):bL:=fun E=>match E[i]? with
 |some (.ow ds)=>(ds[ds.length - 1]?).map fun d=>(.sh d,E.set i (.ow ds.dropLast))
 |_=>none
section
variable {X:Cx} {e:Expr} {m1:Bool} {f:bL} {x:Str} {p apos cpos:Pos}
theorem gJ (i:Nat) (he:EX X e m1 f) (hN:X.N[i]? =some x:=by rfl) (hv:zS X.env.scope x:=by first |exact Or.inl rfl |exact Or.inr (Or.inl rfl) |exact Or.inr (Or.inr rfl)) (hd:(x == ("__debug__":Str))=false:=by decide) (hcd:(x == ("__classdict__":Str))=false:=by decide)
  (hs:starEach [e] X.env=[(false,eval e X.env)]:=by rfl) (hbase:attributeBase (.Name x p) "append" X.env (eval (.Name x p) X.env)=eval (.Name x p) X.env:=by rfl)
  (hfew:((backTo cpos (starEach [e] X.env)).all (fun x=> !x.1)&&(backToKw cpos (keywordEach [] X.env)).all (fun x=>x.1.isSome)
   &&decide (([e]:List Expr).length+([]:List Keyword).length+(if ([]:List Keyword).isEmpty then 0 else 1) < 30))=true:=by rfl) (hline:(apos.endLine == cpos.line)=true:=by rfl):
  EX X (.Call (.Attribute (.Name x p) "append" apos) [e] [] cpos) true (bb i f):=by
 refine cf (BR PySem.F.plainAttrs_list PySem.F.slot_list_append PySem.F.type_list_append lJ (nh hN hv hd hcd) (fT he iH hs) hbase hfew hline hs rfl) fun σ H Q z=>?_
 obtain⟨B,E,xs,Xs,res,E',⟨F,A,fr⟩,cl,e,q⟩:=z
 unfold bb at e
 split at e
 ·rename_i ds0 ei
  obtain⟨⟨s,E1⟩,e1,e⟩:=Za.mp e
  obtain⟨⟨d,E2⟩,e2,e⟩:=Za.mp e
  simp only at e
  split at e
  ·rename_i ds ei2
   split at e
   ·rename_i hl
    cases e
    obtain⟨o,A1,eo,l,vs,rfl,rfl,hl0,_⟩:=fr.var ei
    refine⟨_,eo,.inl ⟨rfl,_,SqL.of hl0⟩,B,E,xs,Xs,s,E1,⟨F,A,fr⟩,fun _=>cl rfl,e1,fun v H1 ⟨F1,A1,fr1⟩=>?_⟩
    obtain⟨F2,A2,fr2⟩:=fr1.frz0 e2
    obtain⟨v',A3,ev,rfl,w,ew,rv⟩:=fr2.ext (k:=0) rfl
    cases ev;cases ew
    obtain⟨A4,fr3⟩:=fr2.pop
    obtain⟨l',vs',eo',hl',r',put⟩:=fr3.mut ei2 (cl rfl)
    rw[eo]at eo'
    cases eo'
    have ll:=r'.len
    have fr4:=put (vs'++[v]) (ds++[d]) (r'.snoc rv)
    exact⟨l,vs',v,rfl,rfl,hl',small (by omega),q _ _ ⟨_,_,fr4.push ⟨rfl,_,rfl,.non⟩⟩⟩
   ·cases e
  ·cases e
 ·cases e
theorem yo (i:Nat) (hN:X.N[i]? =some x:=by rfl) (hv:zS X.env.scope x:=by first |exact Or.inl rfl |exact Or.inr (Or.inl rfl) |exact Or.inr (Or.inr rfl)) (hd:(x == ("__debug__":Str))=false:=by decide) (hcd:(x == ("__classdict__":Str))=false:=by decide)
  (hbase:attributeBase (.Name x p) "pop" X.env (eval (.Name x p) X.env)=eval (.Name x p) X.env:=by rfl) (hline:(apos.endLine == cpos.line)=true:=by rfl):
  EX X (.Call (.Attribute (.Name x p) "pop" apos) [] [] cpos) true (jL i):=by
 refine cf (x8 PySem.F.plainAttrs_list PySem.F.slot_list_pop PySem.F.type_list_pop CP (nh hN hv hd hcd) hbase hline) fun σ H Q z=>?_
 obtain⟨B,E,xs,Xs,res,E',⟨F,A,fr⟩,cl,e,q⟩:=z
 unfold jL at e
 split at e
 ·rename_i ds ei
  obtain⟨d,ed,e⟩:=Zae.mp e
  cases e
  obtain⟨l,vs,eo,hl,r,put⟩:=fr.mut ei (cl rfl)
  obtain⟨y,ey,ry⟩:=r.get ed
  have fr2:=put vs.dropLast ds.dropLast r.dropLast
  exact⟨_,eo,.inl ⟨rfl,_,SqL.of hl⟩,l,vs,y,rfl,rfl,hl,by rw[r.len];exact ey,q _ _ ⟨_,_,fr2.push ⟨rfl,_,rfl,ry⟩⟩⟩
 ·cases e
end
def yp(s:Sl):Sl:=match s.val with
 |some d=>.sh d
 |none=>.no
def frzAll(E:List Sl):List Sl:=E.map yp
def settle(E:List Sl):Sl→Option (Sl×List Sl)
 |.al i=>(frz E (.al i)).map fun a=>(.sh a.1,a.2)
 |.br d=>if cS d then some (.sh d,E)else some (.sh d,frzAll E)
 |s=>some (s,E)
def aA(g h:dN):dN:=fun E=>(g E).bind fun a=>match a.2 with
 |.nx=>h a.1
 |fl=>some (a.1,fl)
def aO:dN:=fun E=>some (E,.nx)
def cg(f:bL):dN:=fun E=>(f E).map fun a=>(a.2,.nx)
def aM(f:bL):dN:=fun E=>(f E).bind fun a=>match a.1 with
 |.al i=>(a.2[i]?).map fun s=>(a.2.set i .no,.rt s)
 |s=>some (a.2,.rt s)
def aZ(c:iu)(g h:dN):dN:=fun E=>(c E).bind fun a=>if a.1 then g a.2 else h a.2
def au(i:Nat)(f:bL):dN:=fun E=>(f E).bind fun a=>(settle a.2 a.1).bind fun b=>if i < b.2.length then some (b.2.set i b.1,.nx)else none
section
variable {K:Frag} {B F:Hp} {A:List Addr} {σ:lC} {H:Hp} {E E':List Sl} {xs:List V} {Xs:List Sl} {v:V} {s s':Sl} {d:PyData}
theorem FrF.frzAll(h:FrF K B F A σ H E xs Xs)(hX:Xs=[]):FrF K B H [] σ H (PL.frzAll E) [] []:=by
 subst hX
 have hx:xs=[]:=by simpa using h.len
 subst hx
 refine⟨h.bf.trans h.fh,Same.refl _,lM H,?_,List.nodup_nil,fun a ha=>(by cases ha),rfl,fun s hs=>?_⟩
 ·have key:∀{os:List (Option V)} {ss:List Sl} {C:List Addr},SAll (SlOk K F H σ) os ss C→SAll (SlOk K H H σ) os (PL.frzAll ss) []:=fun {os ss C} r=>by
   induction r with
   |nil=>exact .nil
   |cons q _ ih=>
    refine .cons (A:=[]) ?_ ih
    unfold yp
    split
    ·rename_i d e
     obtain⟨v,rfl,r,_⟩:=q.val h.fh e
     exact⟨rfl,v,rfl,r⟩
    ·exact rfl
  exact key h.sl
 ·obtain⟨t,_,rfl⟩:=Zba.mp hs
  unfold yp
  split <;> rfl
theorem FrF.settle(h:FrF K B F A σ H E (v::xs) (s::Xs))(hX:Xs=[])(q:PL.settle E s=some (s',E')):s'.isAl=false∧Frm K B σ H E' (v::xs) (s'::Xs):=by
 cases s with
 |al i=>
  obtain⟨⟨d,E2⟩,e,z⟩:=Zae.mp (show(frz E (.al i)).map (fun a=>(Sl.sh a.1,a.2))=some (s',E')from q)
  cases z
  obtain⟨F',A',h'⟩:=h.frz0 e
  exact⟨rfl,F',A',h'⟩
 |br d=>
  have r:=(h.look0 (d:=d) rfl).1
  obtain⟨A',h'⟩:=h.pop
  simp only[PL.settle]at q
  split at q
  ·rename_i hf
   cases q
   exact⟨rfl,F,A',h'.push ⟨rfl,v,rfl,h.cold r hf⟩⟩
  ·cases q
   have h2:=h'.frzAll hX
   have hl:=h'.len
   subst hX
   have hx:xs=[]:=by simpa using hl
   subst hx
   exact⟨rfl,H,[],h2.push ⟨rfl,v,rfl,r⟩⟩
 |no=>cases q;exact⟨rfl,F,A,h⟩
 |sh d=>cases q;exact⟨rfl,F,A,h⟩
 |ow ds=>cases q;exact⟨rfl,F,A,h⟩
 |od kvs=>cases q;exact⟨rfl,F,A,h⟩
 |oi kvs=>cases q;exact⟨rfl,F,A,h⟩
 |tx ps=>cases q;exact⟨rfl,F,A,h⟩
theorem FrF.move{i:Nat}(h:FrF K B F A σ H E (v::xs) (.al i::Xs))(e:E[i]? =some s):Frm K B σ H (E.set i .no) (v::xs) (s::Xs):=by
 obtain⟨v',A1,ev,rfl,w,ew,hw⟩:=h.ext (k:=0) rfl
 cases ev;cases ew
 obtain⟨A',h'⟩:=h.pop
 obtain⟨o,A0,A1,A2,eA,eo,hp,put⟩:=h'.sl.at (k:=Xs.length+i) (s:=s) (by rw[zR (by omega)];simpa using e)
 have z:=put (SlOk K F H σ) o .no [] rfl fun _ _ _ _ _ q=>q
 have e3:(Xs++E).set (Xs.length+i) .no=Xs++E.set i .no:=by
  rw[List.set_append_right _ _ (by omega),xF]
 have e2:(List.map some xs++σ).set (Xs.length+i) o=List.map some xs++σ:=List.ext_getElem? fun j=>by
  by_cases hj:Xs.length+i=j
  ·subst hj
   rw[List.getElem?_set_self',eo];rfl
  ·rw[List.getElem?_set_ne hj]
 rw[e2,e3]at z
 rw[zR (by rw[eQ,h'.len];omega),eQ,h'.len,xF,hw]at eo
 cases eo
 have nd:=h'.nd
 rw[eA]at nd
 refine⟨F,A1++(A0++([]++A2)),h.bf,h.fh,h.tf,.cons hp z,?_,fun a ha=>h'.fr a ?_,h.len,fun s' hs=>?_⟩
 ·have p:(A1++(A0++([]++A2))).Perm (A0++(A1++A2)):=by
   rw[List.nil_append,←ou,←ou]
   exact List.Perm.append_right _ List.perm_append_comm
  exact p.nodup_iff.mpr nd
 ·rw[eA]
  simp only[Zan,Z8]at ha ⊢
  rcases ha with z |z |z
  ·exact .inr (.inl z)
  ·exact .inl z
  ·exact .inr (.inr z)
 ·rcases List.mem_or_eq_of_mem_set hs with hs |hs
  ·exact h.pl s' hs
  ·subst hs;rfl
end
section
variable {X:Cx} {st:Stmt} {aU a b:List Stmt} {g h:dN} {e c:Expr} {m:Bool} {f:bL} {t:iu} {pos:Pos}
theorem cu:wC X [] aO:=vB vp fun D σ H z=>by
 obtain⟨B,E,xs,Xs,E',fl,fr,cl,e,q⟩:=z
 cases e
 exact q _ _ fr
theorem am(h1:SX X st g):wC X [st] g:=z_ h1
theorem uD{K:Frag}{D:Ends}{σ:lC}{H:Hp}(z:rs K (aA g h) D σ H):rs K g {D with nx:=rs K h D} σ H:=by
 obtain⟨B,E,xs,Xs,E',fl,fr,cl,e,q⟩:=z
 obtain⟨⟨E1,f1⟩,e1,e⟩:=Za.mp e
 refine⟨B,E,xs,Xs,E1,f1,fr,cl,e1,?_⟩
 cases f1 with
 |nx=>exact fun σ' H' fr'=>⟨B,E1,xs,Xs,E',fl,fr',cl,e,q⟩
 |bk=>cases e;exact q
 |ct=>cases e;exact q
 |rt r=>cases e;exact q
theorem aq(h1:SX X st g)(h2:wC X aU h):wC X (st::aU) (aA g h):=vB (xL h1 h2) fun D σ H z=>uD z
theorem gA(he:EX X e m f)(hs:swapsWith e none pos.line X.env=pure false:=by rfl):SX X (.Expr e pos) (cg f):=jZ (Aa he hs) fun D σ H z=>by
 obtain⟨B,E,xs,Xs,E',fl,fr,cl,e,q⟩:=z
 obtain⟨⟨s,E1⟩,e1,e⟩:=Zae.mp e
 cases e
 refine⟨B,E,xs,Xs,s,E1,fr,fun _=>Calm.nil cl,e1,fun v H1 ⟨F,A,fr1⟩=>?_⟩
 obtain⟨A',fr2⟩:=fr1.pop
 exact q _ _ ⟨F,A',fr2⟩
theorem aR(he:EX X e m f):SX X (.Return (some e) pos) (aM f):=jZ (Cr he) fun D σ H z=>by
 obtain⟨B,E,xs,Xs,E',fl,fr,cl,e,q⟩:=z
 obtain⟨⟨s,E1⟩,e1,e⟩:=Za.mp e
 refine⟨B,E,xs,Xs,s,E1,fr,fun _=>Calm.nil cl,e1,fun v H1 ⟨F,A,fr1⟩=>?_⟩
 simp only at e
 split at e
 ·obtain⟨s',es,e⟩:=Zae.mp e
  cases e
  exact q σ _ _ (fr1.move es)
 ·cases e
  exact q σ _ _ ⟨F,A,fr1⟩
theorem dR(hc:TX X c m t)(ha:wC X a g)(hb:wC X b h):SX X (.If c a b pos) (aZ t g h):=jZ (D0 hc ha hb) fun D σ H z=>by
 obtain⟨B,E,xs,Xs,E',fl,fr,cl,e,q⟩:=z
 obtain⟨⟨b1,E1⟩,e1,e⟩:=Za.mp e
 refine⟨B,E,xs,Xs,b1,E1,fr,fun _=>Calm.nil cl,e1,fun H1 fr1=>?_⟩
 cases b1 with
 |true=>exact(if_pos rfl).mpr ⟨B,E1,xs,Xs,E',fl,fr1,cl,e,q⟩
 |false=>exact(if_neg (by decide)).mpr ⟨B,E1,xs,Xs,E',fl,fr1,cl,e,q⟩
theorem aF(i:Nat){x:Str}{pos':Pos}(hN:X.N.Nodup)(he:EX X e m f)(hi:X.N[i]? =some x:=by rfl)(hx:BM X.env.scope x:=by first |exact Or.inl rfl |exact Or.inr rfl)(hs:swapsWith e (some (.Name x pos')) pos.line X.env=pure false:=by rfl)(hf:X.fn x=true∨X.env.scope.names.lookup x=some .local:=by first |exact .inl rfl |exact .inr rfl |assumption):
  SX X (.Assign [.Name x pos'] e pos) (au i f):=jZ (Cw hN hi hx he hs hf) fun D σ H z=>by
 obtain⟨B,E,xs,Xs,E',fl,fr,cl,e,q⟩:=z
 obtain⟨⟨s,E1⟩,e1,e⟩:=Za.mp e
 obtain⟨⟨s',E2⟩,e2,e⟩:=Za.mp e
 refine⟨B,E,xs,Xs,s,E1,fr,fun _=>Calm.nil cl,e1,fun v H1 ⟨F,A,fr1⟩=>?_⟩
 obtain⟨c1,F2,A2,fr2⟩:=fr1.settle cl e2
 simp only at e
 split at e
 ·rename_i hi
  cases e
  obtain⟨A3,fr3⟩:=fr2.store c1 (Still.nil cl) hi
  exact q _ _ ⟨F2,A3,fr3⟩
 ·cases e
end
end PL
namespace PL
open PySem L2 Nh
abbrev gB:=PyData→List Sl→Option (List Sl)
abbrev su:=List PyData→List Sl→Option (List Sl)
def rg(K:Frag)(h:gB):TG:=fun v σ H Q=>∃B E xs Xs d E',Frm K B σ H E (v::xs) (.sh d::Xs)∧Still Xs∧h d E=some E'∧∀σ' H',Frm K B σ' H' E' xs Xs→Q σ' H'
def Gk(K:Frag)(h:su):Ab:=fun vs σ H Q=>∃B E xs Xs ds E',vs.length=ds.length∧Frm K B σ H E (vs++xs) (ds.map .sh++Xs)∧Still Xs∧h ds E=some E'∧∀σ' H',Frm K B σ' H' E' xs Xs→Q σ' H'
def GX(X:Cx)(e:Expr)(h:gB):Prop:=PG X e (rg X.K h)
def Fe(X:Cx)(es:List Expr)(h:su):Prop:=Ct X es (Gk X.K h)
def aD(i:Nat):gB:=fun d E=>if i < E.length then some (E.set i (.sh d))else none
def g9:su:=fun ds E=>if ds.isEmpty then some E else none
def eG(h:gB)(hs:su):su:=fun ds E=>match ds with
 |d::ds=>(h d E).bind (hs ds)
 |[]=>none
def g_(n:Nat)(hs:su):gB:=fun d E=>match d with
 |.tuple ds=>if ds.length=n then hs ds E else none
 |_=>none
section
variable {X:Cx}
theorem yq{e:Expr}{t t':TG}(h:PG X e t)(k:∀v σ H Q,t' v σ H Q→t v σ H Q):PG X e t':=fun pins s σ H v u Q I r q=>h pins s σ H v u Q I r (k v σ H Q q)
theorem vF{es:List Expr}{t t':Ab}(h:Ct X es t)(k:∀v σ H Q,t' v σ H Q→t v σ H Q):Ct X es t':=fun pins s σ H v u Q I r q=>h pins s σ H v u Q I r (k v σ H Q q)
theorem aS(i:Nat){x:Str}{pos:Pos}(hN:X.N.Nodup)(hi:X.N[i]? =some x:=by rfl)(hx:BM X.env.scope x:=by first |exact Or.inl rfl |exact Or.inr rfl)(hf:X.fn x=true∨X.env.scope.names.lookup x=some .local:=by first |exact .inl rfl |exact .inr rfl |assumption):GX X (.Name x pos) (aD i):=yq (qe hN hi hx hf) fun v σ H Q z=>by
 obtain⟨B,E,xs,Xs,d,E',⟨F,A,fr⟩,cl,e,q⟩:=z
 unfold aD at e
 split at e
 ·rename_i hi
  cases e
  obtain⟨A',fr'⟩:=fr.store rfl cl hi
  exact q _ _ ⟨F,A',fr'⟩
 ·cases e
theorem mY:Fe X [] g9:=vF Ac fun v σ H Q z=>by
 obtain⟨B,E,xs,Xs,ds,E',hl,fr,cl,e,q⟩:=z
 unfold g9 at e
 split at e
 ·rename_i hd
  cases e
  have:ds=[]:=by simpa using hd
  subst this
  have hv:v=[]:=by simpa using hl
  subst hv
  exact⟨rfl,q _ _ fr⟩
 ·cases e
theorem gc{e:Expr}{es:List Expr}{h:gB}{hs:su}(h1:GX X e h)(h2:Fe X es hs)(hst:(assignEach (e::es) X.env).map (·.2)=assign e X.env::(assignEach es X.env).map (·.2):=by rfl):Fe X (e::es) (eG h hs):=vF (xN h1 h2 hst) fun v σ H Q z=>by
 obtain⟨B,E,xs,Xs,ds,E',hl,fr,cl,e,q⟩:=z
 cases ds with
 |nil=>cases e
 |cons d ds=>
  cases v with
  |nil=>cases hl
  |cons v vs=>
   obtain⟨E1,e1,e2⟩:=Za.mp e
   refine⟨v,vs,rfl,B,E,vs++xs,ds.map Sl.sh++Xs,d,E1,fr,fun s hs=>?_,e1,fun σ1 H1 fr1=>⟨B,E1,xs,Xs,ds,E',by simpa using hl,fr1,cl,e2,q⟩⟩
   rcases Zan.mp hs with hs |hs
   ·obtain⟨d',_,rfl⟩:=Zba.mp hs
    rfl
   ·exact cl s hs
theorem qF{es:List Expr}{k:Nat}{pos:Pos}{hs:su}{n:Nat}(hc:X.calm=true)(h:Fe X es hs)(hn:(assignEach es X.env).length=n:=by rfl)(hst:(assignEach es X.env).findIdx? (·.1)=none:=by rfl):GX X (.Tuple es k pos) (g_ n hs):=yq (Cu hc h hn hst) fun v σ H Q z=>by
 obtain⟨B,E,xs,Xs,d,E',⟨F,A,fr⟩,cl,e,q⟩:=z
 unfold g_ at e
 split at e
 ·rename_i ds
  split at e
  ·rename_i hl
   obtain⟨v',A1,ev,rfl,w,ew,r⟩:=fr.ext (k:=0) rfl
   cases ev;cases ew
   cases r with
   |tup h1 h2=>
    obtain⟨A',fr'⟩:=fr.pop
    have key:∀{us:List V} {es:List PyData},RpA X.K F us es→FrF X.K B F A' σ H E (us++xs) (es.map .sh++Xs):=fun {us es} r=>by
     induction us generalizing es with
     |nil=>cases r;exact fr'
     |cons u us ih=>
      cases r with
      |cons r1 r2=>exact(ih r2).push ⟨rfl,_,rfl,r1⟩
    exact⟨_,_,rfl,fr.fh.tup h1,by rw[h2.len];exact hl,B,E,xs,Xs,ds,E',h2.len,⟨F,A',key h2⟩,cl,e,q⟩
  ·cases e
 ·cases e
end
def uE(K:Frag)(B0:Hp)(J:It)(ds:List PyData):Prop:=∀{B F:Hp} {A:List Addr} {σ:lC} {H:Hp} {E:List Sl} {xs:List V} {Xs:List Sl} (i:Nat),Same B0 B→FrF K B F A σ H E xs Xs→
 (∀d,ds[i]? =some d→J.go i H∧∀x H2,J.yld i H x H2→Frm K B σ H2 E (x::xs) (.sh d::Xs))∧(i=ds.length→J.stop i H)
def ri(K:Frag)(m:Bool)(f:lB):TI:=fun σ H R=>∃B E xs Xs ds E',Frm K B σ H E xs Xs∧(m=true→Calm Xs)∧f E=some (ds,E')∧∀B' J H',Same B B'→Frm K B' σ H' E' xs Xs→uE K B' J ds→R J H'
def IX(X:Cx)(tg e:Expr)(m:Bool)(f:lB):Prop:=PI X tg e (ri X.K m f)
theorem FrF.base{K:Frag}{B B' F:Hp}{A:List Addr}{σ:lC}{H:Hp}{E:List Sl}{xs:List V}{Xs:List Sl}(h:FrF K B' F A σ H E xs Xs)(s:Same B B'):FrF K B F A σ H E xs Xs:=⟨s.trans h.bf,h.fh,h.tf,h.sl,h.nd,h.fr,h.len,h.pl⟩
theorem Frm.base{K:Frag}{B B':Hp}{σ:lC}{H:Hp}{E:List Sl}{xs:List V}{Xs:List Sl}(h:Frm K B' σ H E xs Xs)(s:Same B B'):Frm K B σ H E xs Xs:=let ⟨F,A,h⟩:=h;⟨F,A,h.base s⟩
theorem FrF.raise{K:Frag}{B F:Hp}{A:List Addr}{σ:lC}{H:Hp}{E:List Sl}{xs:List V}{Xs:List Sl}(h:FrF K B F A σ H E xs Xs):FrF K F F A σ H E xs Xs:=⟨Same.refl _,h.fh,h.tf,h.sl,h.nd,h.fr,h.len,h.pl⟩
def jd(lo:Int)(n:Nat):List PyData:=(List.range n).map fun(k:Nat)=>.int (lo+(k:Int))
def nJ(g:qw):lB:=fun E=>(g E).bind fun a=>match be a.2 a.1 with
 |some [.int j]=>if -1000000≤j∧j≤1000000 then some (jd 0 j.toNat,a.2)else none
 |_=>none
def lP(g:qw):lB:=fun E=>(g E).bind fun a=>match be a.2 a.1 with
 |some [.int i,.int j]=>if -1000000≤i∧i≤1000000∧ -1000000≤j∧j≤1000000 then some (jd i (j - i).toNat,a.2)else none
 |_=>none
section
variable {X:Cx} {tg e e2:Expr} {m:Bool} {f:bL} {g:qw} {p pos:Pos} {K:Frag} {B:Hp}
theorem qG{t t':TI}(h:PI X tg e t)(k:∀σ H Q,t' σ H Q→t σ H Q):PI X tg e t':=fun pins s σ H R I q=>h pins s σ H R I (k σ H R q)
theorem o4{a:Addr}{vs:List V}{ds:List PyData}(h:SqL K B a vs)(r:RpA K B vs ds):uE K B (Fq K a) ds:=fun {B' F A σ H E xs Xs} i sB fr=>by
 have hH:=fr.fh.seq (fr.bf.seq (sB.seq h))
 refine⟨fun d ed=>?_,fun e=>⟨vs,hH,by rw[e,r.len];exact fS _⟩⟩
 obtain⟨v,ev,rv⟩:=r.get ed
 refine⟨⟨vs,v,hH,ev⟩,fun x H2 ⟨e2,y⟩=>?_⟩
 subst e2
 have:=y vs hH
 rw[ev]at this
 cases this
 exact⟨F,A,fr.push ⟨rfl,_,rfl,rv.same (sB.trans fr.bf)⟩⟩
theorem nK{lo:Int}{n:Nat}:uE K B (D2 lo n) (jd lo n):=fun {B' F A σ H E xs Xs} i sB fr=>by
 have hl:(jd lo n).length=n:=by simp[jd]
 refine⟨fun d ed=>?_,fun e=>?_⟩
 ·have hi:i < n:=by have:=(List.getElem?_eq_some_iff.mp ed).1;omega
  refine⟨hi,fun x H2 ⟨e2,y⟩=>?_⟩
  subst e2 y
  have:d=.int (lo+i):=by
   unfold jd at ed
   rw[we,List.getElem?_range hi]at ed
   exact(Option.some.inj ed).symm
  subst this
  exact⟨F,A,fr.push ⟨rfl,_,rfl,.int _⟩⟩
 ·show n≤i
  omega
theorem o5 (hg:Gl X "range") (hm:X.mg "range"=none) (ha:AX X [e] m g) (hs:starEach [e] X.env=[(false,eval e X.env)]:=by rfl):IX X tg (.Call (.Name "range" p) [e] [] pos) m (nJ g):=qG (wk hg hm ha hs) fun σ H R z=>by
 obtain⟨B,E,xs,Xs,ds,E',fr,cl,e,q⟩:=z
 obtain⟨⟨rs,E1⟩,e1,e⟩:=Za.mp e
 refine⟨B,E,xs,Xs,rs,E1,fr,cl,e1,fun vs H1 hl ⟨F,A,fr1⟩=>?_⟩
 simp only at e
 split at e
 ·rename_i j ld
  split at e
  ·rename_i hj
   cases e
   obtain⟨r,A',fr2⟩:=fr1.looks hl ld
   obtain⟨v,rfl,r'⟩:=r.one
   cases r'
   exact⟨j,rfl,by omega,by omega,q B _ _ (Same.refl _) ⟨F,A',fr2⟩ nK⟩
  ·cases e
 ·cases e
theorem wI (hg:Gl X "range") (hm:X.mg "range"=none) (ha:AX X [e,e2] m g) (hs:starEach [e,e2] X.env=[(false,eval e X.env),(false,eval e2 X.env)]:=by rfl) (hs2:starEach [e2] X.env=[(false,eval e2 X.env)]:=by rfl):IX X tg (.Call (.Name "range" p) [e,e2] [] pos) m (lP g):=qG (wl hg hm ha hs hs2) fun σ H R z=>by
 obtain⟨B,E,xs,Xs,ds,E',fr,cl,e,q⟩:=z
 obtain⟨⟨rs,E1⟩,e1,e⟩:=Za.mp e
 refine⟨B,E,xs,Xs,rs,E1,fr,cl,e1,fun vs H1 hl ⟨F,A,fr1⟩=>?_⟩
 simp only at e
 split at e
 ·rename_i i j ld
  split at e
  ·rename_i hj
   cases e
   obtain⟨r,A',fr2⟩:=fr1.looks hl ld
   obtain⟨v,u,rfl,r1,r2⟩:=r.two
   cases r1;cases r2
   exact⟨i,j,rfl,by omega,q B _ _ (Same.refl _) ⟨F,A',fr2⟩ nK⟩
  ·cases e
 ·cases e
end
def cw(tg:gB)(body:dN):List PyData→dN
 |[],E=>some (E,.nx)
 |d::ds,E=>((tg d E).bind body).bind fun a=>match a.2 with
  |.nx=>cw tg body ds a.1
  |.ct=>cw tg body ds a.1
  |.bk=>some (a.1,.nx)
  |.rt r=>some (a.1,.rt r)
def eS(it:lB)(tg:gB)(body:dN):dN:=fun E=>(it E).bind fun a=>cw tg body a.1 a.2
theorem gu{X:Cx}{tg iter:Expr}{body:List Stmt}{m:Bool}{it:lB}{g:gB}{b:dN}{pos:Pos}(hp:PassesOwn (model X.prog X.w) X.A X.env X.xe)(hc:X.calm=true)(hi:IX X tg iter m it)(hg:GX X tg g)(hb:wC X body b)
  (hs:∀x,foldedSetIterable iter X.env x=pure x:=by intro _;rfl):SX X (.For tg iter body [] pos) (eS it g b):=jZ (Cz hp hc hi hg hb hs) fun D σ H z=>by
 obtain⟨B,E,xs,Xs,E',fl,fr,cl,e,q⟩:=z
 obtain⟨⟨ds,E1⟩,e1,e⟩:=Za.mp e
 refine⟨B,E,xs,Xs,ds,E1,fr,fun _=>Calm.nil cl,e1,fun B' J H1 hB fr1 ok=>?_⟩
 refine⟨fun i mm σ' H'=>mm=ds.length - i∧i≤ds.length∧∃Ei,cw g b (ds.drop i) Ei=some (E',fl)∧Frm X.K B' σ' H' Ei xs Xs,⟨ds.length,by simp,Nat.zero_le _,E1,by simpa using e,fr1⟩,?_⟩
 rintro i mm σ' H' ⟨rfl,hi,Ei,ei,F,A,fri⟩
 obtain⟨go,stop⟩:=ok i (Same.refl _) fri
 by_cases hlt:i < ds.length
 ·obtain⟨d,ed⟩:∃d,ds[i]? =some d:=⟨ds[i],wc hlt⟩
  obtain⟨g1,yl⟩:=go d ed
  have edr:ds.drop i=d::ds.drop (i+1):=by
   rw[List.drop_eq_getElem_cons hlt]
   congr 1
   exact Option.some.inj ((wc hlt).symm.trans ed)
  rw[edr]at ei
  obtain⟨⟨E2,f2⟩,e2,ei⟩:=Za.mp ei
  obtain⟨E3,e3,e2⟩:=Za.mp e2
  refine .inr ⟨g1,fun σ2 H2=>∃Ej,cw g b (ds.drop (i+1)) Ej=some (E',fl)∧Frm X.K B' σ2 H2 Ej xs Xs,fun σ2 H2 ⟨Ej,ej,frj⟩=>⟨ds.length - (i+1),by omega,rfl,hlt,Ej,ej,frj⟩,fun x H2 y=>?_⟩
  refine⟨B',Ei,xs,Xs,d,E3,yl x H2 y,Still.nil cl,e3,fun σ3 H3 fr3=>?_⟩
  refine⟨B',E3,xs,Xs,E2,f2,fr3,cl,e2,?_⟩
  cases f2 with
  |nx=>exact fun σ4 H4 fr4=>⟨E2,ei,fr4⟩
  |ct=>exact fun σ4 H4 fr4=>⟨E2,ei,fr4⟩
  |bk=>cases ei;exact fun σ4 H4 fr4=>q _ _ (fr4.base hB)
  |rt r=>cases ei;exact fun σ4 v H4 fr4=>q _ _ _ (fr4.base hB)
 ·have e0:i=ds.length:=by omega
  refine .inl ⟨stop e0,?_⟩
  rw[e0,List.drop_length]at ei
  cases ei
  exact q _ _ (Frm.base ⟨F,A,fri⟩ hB)
def bC:Sl→Bool
 |.sh d=>cS d
 |.ow ds=>bH ds
 |.tx ps=>ps.all fun p=>match p with |.fl d=>cS d |.ol ds=>bH ds
 |.od kvs=>kvs.all fun p=>bH p.2
 |_=>false
def a_(n:Nat)(ds:List PyData):List Sl:=ds.map .sh++List.replicate (n - ds.length) .no
def cn(r:Sl):Option Sl:=if bC r then some r else match r with
 |.sh d=>some (.br d)
 |.ow ds=>some (.br (.list ds))
 |.tx ps=>some (.br (.tuple (ps.map Pt.val)))
 |.br d=>some (if cS d then .sh d else .br d)
 |_=>none
def fu(n:Nat)(g:dN):List PyData→Option Sl:=fun ds=>(g (a_ n ds)).bind fun a=>match a.2 with
 |.rt r=>cn r
 |.nx=>some (.sh .none)
 |_=>none
section
variable {K:Frag} {B F:Hp} {A:List Addr} {σ:lC} {H:Hp} {E:List Sl} {v:V} {r:Sl}
theorem DlOk.cold{F H:Hp}(sF:Same F H):∀{us:List (e8×V)} {kvs:List (e8×List PyData)} {A:List Addr},(∀p∈kvs,bH p.2=true)→DlOk K F H us kvs A→DlOk K (tups H) H us kvs A
 |[],[],A,_,h=>h
 |p::us,q::kvs,A,c,h=>by
  obtain⟨l,vs,A',rfl,rfl,hl,hr,k⟩:=h
  exact⟨l,vs,A',rfl,rfl,hl,(hr.same sF).cold (c q (ir ..)),DlOk.cold sF (fun p hp=>c p (g6 _ hp)) k⟩
 |[],_::_,_,_,h=>False.elim h
 |_::_,[],_,_,h=>False.elim h
theorem PtsOk.cold{F H G:Hp}(sF:Same F H)(tG:∀{v:V} {d:PyData},Rp K F v d→cS d=true→Rp K G v d):∀{vs:List V} {ps:List Pt} {A:List Addr},(∀p∈ps,(match p with |.fl d=>cS d |.ol ds=>bH ds)=true)→PtsOk K F H vs ps A→PtsOk K G H vs ps A
 |[],[],A,_,h=>h
 |v::vs,.fl d::ps,A,c,h=>⟨tG h.1 (c (.fl d) (ir ..)),PtsOk.cold sF tG (fun p hp=>c p (g6 _ hp)) h.2⟩
 |v::vs,.ol ds::ps,A,c,h=>by
  obtain⟨l,us,A',rfl,rfl,hl,hr,q⟩:=h
  refine⟨l,us,A',rfl,rfl,hl,?_,q.cold sF tG fun p hp=>c p (g6 _ hp)⟩
  have cd:bH ds=true:=c (.ol ds) (ir ..)
  have key:∀{us:List V} {ds:List PyData},RpA K F us ds→bH ds=true→RpA K G us ds:=fun {us ds} r c=>by
   induction us generalizing ds with
   |nil=>cases r;exact .nil
   |cons u us ih=>
    cases r with
    |cons r1 r2=>
     simp only[bH,uf]at c
     exact .cons (tG r1 c.1) (ih r2 c.2)
  exact key hr cd
 |[],_::_,_,_,h=>False.elim h
 |_::_,[],_,_,h=>False.elim h
theorem FrF.result(h:FrF K B F A σ H E [v] [r])(c:bC r=true):Same B H∧vE K B H v r:=by
 refine⟨h.bf.trans h.fh,?_⟩
 have nB:∀a,F a=none→B a=none:=fun a e=>h.bf.free e
 have cold:∀{v:V} {d:PyData},Rp K F v d→cS d=true→Rp K (tups H) v d:=fun r f=>(r.same h.fh).cold f
 obtain⟨v',A1,ev,hs⟩:=h.ext (k:=0) rfl
 cases ev
 obtain⟨o,C0,C1,C2,eA,eo,hp,_⟩:=h.sl.at (k:=0) (s:=r) rfl
 cases eo
 have sub:∀a∈C1,F a=none:=fun a ha=>h.fr a (by rw[eA];simp[ha])
 have nd:C1.Nodup:=by
  have:=h.nd
  rw[eA]at this
  exact(Zbh.mp (Zbh.mp this).2.1).1
 cases r with
 |sh d=>obtain⟨_,w,ew,r⟩:=hp;cases ew;exact cold r c
 |ow ds=>
  obtain⟨l,vs,el,rfl,hl,r⟩:=hp
  cases el
  exact⟨l,vs,rfl,nB l (sub l (by simp)),hl,(r.same h.fh).cold c⟩
 |tx ps=>
  obtain⟨t,vs,et,ht,r⟩:=hp
  cases et
  exact⟨t,vs,C1,rfl,kG (h.fh _ _ ht) rfl,nd,fun a ha=>nB a (sub a ha),r.cold h.fh cold (by simpa[bC,List.all_eq_true]using c)⟩
 |no=>cases c
 |od kvs=>
  obtain⟨l,us,A',el,rfl,hl,r⟩:=hp
  cases el
  exact⟨l,us,A',rfl,nd,fun a ha=>nB a (sub a ha),hl,r.cold h.fh (by simpa[bC,List.all_eq_true]using c)⟩
 |oi kvs=>cases c
 |al i=>cases c
 |br d=>cases c
theorem FrF.resultO{r':Sl}(h:FrF K B F A σ H E [v] [r])(c:cn r=some r'):Same B H∧vE K B H v r':=by
 unfold cn at c
 split at c
 ·rename_i hc
  cases c
  exact h.result hc
 ·refine⟨h.bf.trans h.fh,?_⟩
  cases r with
  |sh d=>cases c;exact(h.look0 (d:=d) rfl).1
  |ow ds=>cases c;exact(h.look0 (d:=.list ds) rfl).1
  |tx ps=>cases c;exact(h.look0 (d:=.tuple (ps.map Pt.val)) rfl).1
  |br d=>
   have r:=(h.look0 (d:=d) rfl).1
   simp only at c
   split at c
   ·rename_i hf
    cases c
    exact r.cold hf
   ·cases c
    exact r
  |no=>cases c
  |od kvs=>cases c
  |oi kvs=>cases c
  |al i=>cases c
theorem qH{N:List Str}{vs:List V}{ds:List PyData}(r:RpA K H vs ds)(hn:ds.length≤N.length):FrF K H H [] (L2.iv N vs) H (a_ N.length ds) [] []:=by
 refine⟨Same.refl _,Same.refl _,lM H,?_,List.nodup_nil,fun a ha=>(by cases ha),rfl,?_⟩
 ·have l:=r.len
  unfold L2.iv a_
  rw[l]
  generalize N.length - ds.length=k
  have base:∀τ:lC,SAll (SlOk K H H τ) (List.replicate k none) (List.replicate k .no) []:=fun τ=>by
   induction k with
   |zero=>exact .nil
   |succ k ih=>exact .cons (A:=[]) rfl ih
  have key:∀(τ:lC) {us:List V} {es:List PyData},RpA K H us es→SAll (SlOk K H H τ) (us.map some++List.replicate k none) (es.map .sh++List.replicate k .no) []:=fun τ us es r=>by
   induction us generalizing es with
   |nil=>cases r;exact base τ
   |cons u us ih=>
    cases r with
    |cons r1 r2=>exact .cons (A:=[]) ⟨rfl,_,rfl,r1⟩ (ih _ r2)
  exact key _ r
 ·intro s hs
  unfold a_ at hs
  rcases Zan.mp hs with hs |hs
  ·obtain⟨d,_,rfl⟩:=Zba.mp hs
   rfl
  ·rw[(List.mem_replicate.mp hs).2]
   rfl
end
def eM(k n:Nat)(g:dN):List PyData→Option Sl:=fun ds=>if ds.length=k then fu n g ds else none
theorem fv{P:Program}{w:World}{K:Frag}{mg:Str→Option Value}{base:Heap}{x:Str}{st:Stmt}{N ps:List Str}{k a n:Nat}{g:dN}(D:Def K mg x st ps)(S:FnScope N ps (ao st))(hpa:ps.length=a)(hNn:N.length=n)(hps:a≤n)
  (hbody:∀(f:Addr) (cdv:Value) (A:Around) (outer:List Env) (s:Shared) (H:Hp) (E:XK),Room k (A.deeper (PyProof.Rows.envOfC x (ao st) s.heap.objs.size f cdv))→
   wC (oA wA P w K mg base N x (ao st) f cdv A outer s H E).nox (cQ st) g):Own P w K mg base (k+1) x ps (du K (eM a n g)):=by
 subst hpa hNn
 refine D.own S (fun vs H Q E h=>?_) (fun f cdv A outer s H vs Q E hr h=>?_)
 ·obtain⟨ds,r,e,rp,_⟩:=h
  unfold eM at e
  split at e
  ·rename_i hl
   rw[rp.len];exact hl
  ·cases e
 obtain⟨ds,r,e,rp,q⟩:=h
 unfold eM at e
 split at e
 ·rename_i hl
  refine⟨_,hbody f cdv A outer s H E hr,?_⟩
  obtain⟨⟨E',fl⟩,e1,e⟩:=Za.mp e
  refine⟨H,a_ N.length ds,[],[],E',fl,⟨H,[],qH rp (by omega)⟩,rfl,e1,?_⟩
  cases fl with
  |nx=>
   cases e
   rintro σ' H' ⟨F',A',fr'⟩
   exact q _ _ (fr'.bf.trans fr'.fh) .non
  |bk=>cases e
  |ct=>cases e
  |rt r'=>
   rintro σ' v H' ⟨F',A',fr'⟩
   obtain⟨s1,s2⟩:=fr'.resultO e
   exact q v H' s1 s2
 ·cases e
theorem Gm{P:Program}{w:World}{K:Frag}{mg:Str→Option Value}{base:Heap}{x:Str}{st:Stmt}{N ps:List Str}{k a n:Nat}{g:dN}{f0:Addr}{fd:FuncData}(D:Fun K x x st f0 fd)(S:FnScope N ps (ao st))(hpa:ps.length=a)(hNn:N.length=n)(hps:a≤n)
  (hbody:∀(cdv:Value) (A:Around) (outer:List Env) (s:Shared) (H:Hp) (E:XK),Room k (A.deeper (PyProof.Rows.envOfC x (ao st) s.heap.objs.size f0 cdv))→
   wC (oA wA P w K mg base N x (ao st) f0 cdv A outer s H E).nox (cQ st) g):FnOk P w K mg base wA (k+1) f0 fd ps (du K (eM a n g)):=by
 subst hpa hNn
 refine D.ok S (fun vs H Q E h=>?_) (fun cdv A outer s H vs Q E hr h=>?_)
 ·obtain⟨ds,r,e,rp,_⟩:=h
  unfold eM at e
  split at e
  ·rename_i hl
   rw[rp.len];exact hl
  ·cases e
 obtain⟨ds,r,e,rp,q⟩:=h
 unfold eM at e
 split at e
 ·rename_i hl
  refine⟨_,hbody cdv A outer s H E hr,?_⟩
  obtain⟨⟨E',fl⟩,e1,e⟩:=Za.mp e
  refine⟨H,a_ N.length ds,[],[],E',fl,⟨H,[],qH rp (by omega)⟩,rfl,e1,?_⟩
  cases fl with
  |nx=>
   cases e
   rintro σ' H' ⟨F',A',fr'⟩
   exact q _ _ (fr'.bf.trans fr'.fh) .non
  |bk=>cases e
  |ct=>cases e
  |rt r'=>
   rintro σ' v H' ⟨F',A',fr'⟩
   obtain⟨s1,s2⟩:=fr'.resultO e
   exact q v H' s1 s2
 ·cases e
theorem o6{K:Frag}{H:Hp}:∀ns:List Int,RpA K H (ns.map V.int) (ns.map PyData.int)
 |[]=>.nil
 |n::ns=>.cons (.int n) (o6 ns)
theorem C4{K:Frag}{H:Hp}{a:Addr}{ns:List Int}{c:List PyData→Option Sl}(e:c [.list (ns.map .int)]=some (.sh (.bool true)))(h:SqL K H a (ns.map V.int)):du K c [.ref a] H (fun v _=>v=.bl true) fun _ _ _=>False:=
 ⟨_,_,e,.cons (.lst h (o6 ns)) .nil,fun v H' _ r=>by
  have r':Rp K (tups H') v (.bool true):=r
  cases r'
  rfl⟩
end PL
namespace PL
open PySem L2 Nh
def mC(E:List Sl):Option Nat→Sl
 |none=>.no
 |some j=>match (E[j]?).bind Sl.val with
  |some d=>.sh d
  |none=>.no
def gS(js:List (Option Nat))(E:List Sl):List Sl:=js.map (mC E)
def aL:iu:=fun E=>some (true,E)
def bW(tg:gB)(cond:iu)(elt:bL):List PyData→List Sl→Option (List PyData)
 |[],_=>some []
 |d::ds,E=>(tg d E).bind fun E1=>(cond E1).bind fun b=>if b.1 then (elt b.2).bind fun c=>(frz c.2 c.1).bind fun e=>(bW tg cond elt ds e.2).map fun r=>e.1::r else bW tg cond elt ds b.2
def aP(js:List (Option Nat))(it:lB)(tg:gB)(cond:iu)(elt:bL):bL:=fun E=>(it E).bind fun a=>(bW tg cond elt a.1 (gS js a.2)).bind fun ds=>if bH ds&&decide (ds.length≤1000000)then some (.ow ds,a.2)else none
section
variable {X:Cx} {elt target iter:Expr} {ifs:List Expr} {scope sc:Scope} {cl:List (Str×Addr)} {N:List Str} {pos:Pos} {js:List (Option Nat)} {K:Frag}
theorem yr{B F:Hp}{A:List Addr}{σ:lC}{H:Hp}{E:List Sl}{xs:List V}{Xs:List Sl}(fr:FrF K B F A σ H E xs Xs)(js:List (Option Nat)):FrF K H H [] (slots js σ) H (gS js E) [] []:=by
 refine⟨Same.refl _,Same.refl _,lM H,?_,List.nodup_nil,fun a ha=>(by cases ha),rfl,fun s hs=>?_⟩
 ·have key:∀(τ:lC) (ks:List (Option Nat)),SAll (SlOk K H H τ) (slots ks σ) (gS ks E) []:=fun τ ks=>by
   induction ks with
   |nil=>exact .nil
   |cons j ks ih=>
    refine .cons (A:=[]) ?_ ih
    cases j with
    |none=>exact rfl
    |some j=>
     show SlOk K H H τ _ (match (E[j]?).bind Sl.val with |some d=>.sh d |none=>.no) []
     cases ej:E[j]? with
     |none=>exact rfl
     |some s=>
      cases ev:s.val with
      |none=>simp only[Z0,ev];exact rfl
      |some d=>
       simp only[Z0,ev]
       obtain⟨o,A1,eo,hs⟩:=fr.var ej
       obtain⟨v,rfl,r,_⟩:=hs.val fr.fh ev
       refine⟨rfl,v,?_,r⟩
       show(σ[j]?).join=some v
       rw[eo]
       rfl
  exact key _ js
 ·obtain⟨j,_,rfl⟩:=Zba.mp hs
  cases j with
  |none=>rfl
  |some j=>
   simp only[mC]
   split <;> rfl
theorem o7{m2 m3:Bool}{tg:gB}{cond:iu}{el:bL}{tt:TT}(htt:∀σ H Q,rt K m2 cond σ H Q→tt σ H Q){B B' F:Hp}{A:List Addr}{σ:lC}{H1:Hp}{E1:List Sl}{xs:List V}{Xs:List Sl}{ds rs:List PyData}{J:It}{Q:VK}
  (fr1:FrF K B F A σ H1 E1 xs Xs) (B2:Same B' H1) (ok:uE K B' J ds) (e2:bW tg cond el ds (gS js E1)=some rs) (hc:bH rs=true∧rs.length≤1000000) (q:∀v H',Frm K B σ H' E1 (v::xs) (.ow rs::Xs)→Q v H') (l:Addr) (hl:H1 l=none):
  ∃W:Nat→Nat→lC→Hp→Prop,(∃m,W 0 m (slots js σ) (upd H1 l (.lst [])))∧
 ∀i m σ' H',W i m σ' H'→(J.stop i H'∧Q (.ref l) H')∨(J.go i H'∧∃N:lC→Hp→Prop,(∀σ' H',N σ' H'→∃m',m' < m∧W (i+1) m' σ' H')∧∀x H2,J.yld i H' x H2→rg K tg x σ' H2 fun σ3 H3=>tt σ3 H3 fun b H4=>
  if b=true then rd K m3 el σ3 H4 fun y H5=>∃ys,H5 l=some (.lst ys)∧ys.length < sizeLine∧N σ3 (upd H5 l (.lst (ys++[y])))else N σ3 H4):=by
 have fr0:=(yr fr1 js).newl (ds:=[]) .nil hl
 refine⟨fun i mm σ' H'=>mm=ds.length - i∧i≤ds.length∧∃Ei acc aU,bW tg cond el (ds.drop i) Ei=some aU∧rs=acc++aU∧Frm K H1 σ' H' Ei [.ref l] [.ow acc],⟨ds.length,by simp,Nat.zero_le _,_,[],rs,by simpa using e2,rfl,⟨_,_,fr0⟩⟩,?_⟩
 rintro i mm σ' H' ⟨rfl,hi,Ei,acc,aU,ei,er,F',A',fri⟩
 obtain⟨go,stop⟩:=ok i B2 fri
 by_cases hlt:i < ds.length
 ·obtain⟨d,ed⟩:∃d,ds[i]? =some d:=⟨ds[i],wc hlt⟩
  obtain⟨g1,yl⟩:=go d ed
  have edr:ds.drop i=d::ds.drop (i+1):=by
   rw[List.drop_eq_getElem_cons hlt]
   congr 1
   exact Option.some.inj ((wc hlt).symm.trans ed)
  rw[edr]at ei
  obtain⟨E3,e3,ei⟩:=Za.mp ei
  obtain⟨⟨b,E4⟩,e4,ei⟩:=Za.mp ei
  refine .inr ⟨g1,fun σ2 H2=>∃Ej acc aU,bW tg cond el (ds.drop (i+1)) Ej=some aU∧rs=acc++aU∧Frm K H1 σ2 H2 Ej [.ref l] [.ow acc],fun σ2 H2 ⟨Ej,ac,rt,ej,er,frj⟩=>⟨ds.length - (i+1),by omega,rfl,hlt,Ej,ac,rt,ej,er,frj⟩,fun x H2 y=>?_⟩
  have clm:Calm [Sl.ow acc]:=Calm.cons (fun s hs=>absurd hs (by simp)) rfl
  refine⟨H1,Ei,[.ref l],[.ow acc],d,E3,yl x H2 y,(fun s hs=>by rw[Zaf.mp hs];rfl),e3,fun σ3 H3 fr3=>htt _ _ _ ?_⟩
  refine⟨H1,E3,[.ref l],[.ow acc],b,E4,fr3,fun _=>clm,e4,fun H4 fr4=>?_⟩
  cases b with
  |false=>
   rw[if_neg (by decide)]
   exact⟨E4,acc,aU,ei,er,fr4⟩
  |true=>
   rw[if_pos rfl]
   obtain⟨⟨s5,E5⟩,e5,ei⟩:=Za.mp ei
   obtain⟨⟨d6,E6⟩,e6,ei⟩:=Za.mp ei
   obtain⟨rest',e7,ei⟩:=Zae.mp ei
   subst ei
   refine⟨H1,E4,[.ref l],[.ow acc],s5,E5,fr4,fun _=>clm,e5,fun y5 H5 ⟨F5,A5,fr5⟩=>?_⟩
   obtain⟨F6,A6,fr6⟩:=fr5.frz0 e6
   obtain⟨v',C1,ev,rfl,w,ew,ry⟩:=fr6.ext (k:=0) rfl
   cases ev;cases ew
   obtain⟨A7,fr7⟩:=fr6.pop
   -- the list under way is the one part that owns
   obtain⟨bf,fh,tf,sl,nd,frn,len,pl⟩:=fr7
   generalize hT:List.map some [V.ref l]++σ3=T at sl
   generalize hS:[Sl.ow acc]++E6=S at sl
   cases sl with
   |nil=>cases hS
   |cons q0 r0=>
    injection hT with h1 hT
    injection hS with h2 hS
    subst h1 h2 hT hS
    obtain⟨l',us,el,rfl,hl5,ru⟩:=q0
    cases el
    have lu:=ru.len
    refine⟨us,hl5,small (by rw[er]at hc;simp at hc;omega),E6,acc++[d6],rest',e7,by rw[er];simp,F6,_,bf,fun b o qb=>?_,?_,.cons (A:=[l]) ⟨l,us++[y5],rfl,rfl,c_,ru.snoc ry⟩ (r0.mono fun o s C hs hC qq=>qq.stay (Same.refl _) (fun b hb=>aX fun z=>?_) fun z=>?_),nd,frn,rfl,pl⟩
    ·have lF:F6 l=none:=frn l (by simp)
     rw[aX (fun z=>by rw[z,lF]at qb;cases qb)]
     exact fh _ _ qb
    ·rw[r_ hl5];exact tf
    ·have:=hC b hb
     rw[z]at this
     exact(List.nodup_cons.mp nd).1 this
    ·have:=pl s hs
     cases s <;> simp[Sl.isAl,Sl.isBr]at this z
 ·have e0:i=ds.length:=by omega
  refine .inl ⟨stop e0,?_⟩
  rw[e0,List.drop_length]at ei
  cases ei
  rw[List.append_nil]at er
  subst er
  obtain⟨g1,g2⟩:=fri.result hc.1
  exact q _ _ (fr1.told g1 g2)
theorem mZ{m m2 m3:Bool}{it:lB}{tg:gB}{cond:iu}{el:bL}{tt:TT}(htt:∀σ H Q,rt K m2 cond σ H Q→tt σ H Q){σ:lC}{H:Hp}{Q:VK}(z:rd K m (aP js it tg cond el) σ H Q):mq js (ri K m it) (rg K tg) tt (rd K m3 el) σ H Q:=by
 obtain⟨B,E,xs,Xs,res,E',fr,cl,e,q⟩:=z
 obtain⟨⟨ds,E1⟩,e1,e⟩:=Za.mp e
 obtain⟨rs,e2,e⟩:=Za.mp e
 simp only at e
 split at e
 ·rename_i hc
  cases e
  simp only[uf,decide_eq_true_eq]at hc
  exact⟨B,E,xs,Xs,ds,_,fr,cl,e1,fun B' J H1 hB ⟨F,A,fr1⟩ ok l hl=>o7 htt (fr1.base hB) (fr1.bf.trans fr1.fh) ok e2 hc q l hl⟩
 ·cases e
def F_(K:Frag)(m:Bool)(f:lB):TI:=fun σ H R=>∃B E xs Xs ds E',Frm K B σ H E xs Xs∧(m=true→Calm Xs)∧f E=some (ds,E')∧∀J H',Frm K B σ H' E' xs Xs→uE K H' J ds→R J H'
def Ga(X:Cx)(tg e:Expr)(m:Bool)(f:lB):Prop:=PI X tg e (F_ X.K m f)
theorem yt{m m2 m3:Bool}{it:lB}{tg:gB}{cond:iu}{el:bL}{tt:TT}(htt:∀σ H Q,rt K m2 cond σ H Q→tt σ H Q){σ:lC}{H:Hp}{Q:VK}(z:rd K m (aP js it tg cond el) σ H Q):mq js (F_ K m it) (rg K tg) tt (rd K m3 el) σ H Q:=by
 obtain⟨B,E,xs,Xs,res,E',fr,cl,e,q⟩:=z
 obtain⟨⟨ds,E1⟩,e1,e⟩:=Za.mp e
 obtain⟨rs,e2,e⟩:=Za.mp e
 simp only at e
 split at e
 ·rename_i hc
  cases e
  simp only[uf,decide_eq_true_eq]at hc
  exact⟨B,E,xs,Xs,ds,_,fr,cl,e1,fun J H1 ⟨F,A,fr1⟩ ok l hl=>o7 htt fr1 (Same.refl _) ok e2 hc q l hl⟩
 ·cases e
theorem gd{m m3:Bool}{it:lB}{tg:gB}{el:bL}(C:CompOk X scope sc cl N js)(hc:X.calm=true)(hi:IX X target iter m it)(hg:∀C s₀ H₀ fp,GX (X.comp sc cl N C s₀ H₀ fp) target tg)(he:∀C s₀ H₀ fp,EX (X.comp sc cl N C s₀ H₀ fp) elt m3 el)
  (hs:∀x,foldedSetIterable iter X.env x=pure x:=by intro _;rfl):EX X (.ListComp elt [⟨target,iter,[],0⟩] scope pos) m (aP js it tg aL el):=
 cf (qr (g:=rg X.K tg) (te:=rd X.K m3 el) C hc hi hg (fun _ _ _ _=>qp) he hs) fun σ H Q z=>mZ (m2:=false) (fun σ H Q z=>by
  obtain⟨B,E,xs,Xs,b,E',fr,cl,e,q⟩:=z
  cases e
  exact q _ fr) z
theorem kI{c:Expr}{m m2 m3:Bool}{it:lB}{tg:gB}{cond:iu}{el:bL}(C:CompOk X scope sc cl N js)(hc:X.calm=true)(hi:IX X target iter m it)(hg:∀C s₀ H₀ fp,GX (X.comp sc cl N C s₀ H₀ fp) target tg)(ht:∀C s₀ H₀ fp,TX (X.comp sc cl N C s₀ H₀ fp) c m2 cond)(he:∀C s₀ H₀ fp,EX (X.comp sc cl N C s₀ H₀ fp) elt m3 el)
  (hs:∀x,foldedSetIterable iter X.env x=pure x:=by intro _;rfl):EX X (.ListComp elt [⟨target,iter,[c],0⟩] scope pos) m (aP js it tg cond el):=
 cf (qr (g:=rg X.K tg) (te:=rd X.K m3 el) (tt:=rt X.K m2 cond) C hc hi hg (fun _ _ _ _=>Av (ht _ _ _ _)) he hs) fun σ H Q z=>mZ (m2:=m2) (fun _ _ _ z=>z) z
def mD(f:bL):lB:=fun E=>(f E).bind fun a=>match look a.2 a.1 with
 |some (.list ds)=>some (ds,a.2)
 |_=>none
theorem vG{tg e:Expr}{m:Bool}{f:bL}(he:EX X e m f):Ga X tg e m (mD f):=qG (qf he) fun σ H R z=>by
 obtain⟨B,E,xs,Xs,ds,E',fr,cl,e,q⟩:=z
 obtain⟨⟨s,E1⟩,e1,e⟩:=Za.mp e
 simp only at e
 split at e
 ·rename_i ds' ld
  cases e
  refine⟨B,E,xs,Xs,s,_,fr,cl,e1,fun v H1 ⟨F,A,fr1⟩=>?_⟩
  obtain⟨r,_⟩:=fr1.look0 ld
  obtain⟨A',fr2⟩:=fr1.pop
  cases r with
  |lst h1 h2=>exact⟨_,rfl,⟨_,h1⟩,q _ _ ⟨F,A',fr2⟩ (o4 h1 h2)⟩
 ·cases e
theorem o8{m m3:Bool}{it:lB}{tg:gB}{el:bL}(C:CompOk X scope sc cl N js)(hc:X.calm=true)(hi:Ga X target iter m it)(hg:∀C s₀ H₀ fp,GX (X.comp sc cl N C s₀ H₀ fp) target tg)(he:∀C s₀ H₀ fp,EX (X.comp sc cl N C s₀ H₀ fp) elt m3 el)
  (hs:∀x,foldedSetIterable iter X.env x=pure x:=by intro _;rfl):EX X (.ListComp elt [⟨target,iter,[],0⟩] scope pos) m (aP js it tg aL el):=
 cf (qr (g:=rg X.K tg) (te:=rd X.K m3 el) C hc hi hg (fun _ _ _ _=>qp) he hs) fun σ H Q z=>yt (m2:=false) (fun σ H Q z=>by
  obtain⟨B,E,xs,Xs,b,E',fr,cl,e,q⟩:=z
  cases e
  exact q _ fr) z
end
end PL
namespace PL
open PySem L2 Nh
def keyOf:PyData→Option e8
 |.int i=>some (.inl i)
 |.str x=>some (.inr x)
 |_=>none
def keysOf:List (PyData×PyData)→Option (List e8)
 |[]=>some []
 |p::r=>(keyOf p.1).bind fun k=>(keysOf r).map fun ks=>k::ks
end PL
namespace PL
open PySem L2 Nh
theorem C5{K:Frag}{m:Bool}{i:Nat}{f:bL}{D:Ends}{σ:lC}{H:Hp}(z:rs K (au i f) D σ H):rd K m f σ H fun v H1=>ni i v σ H1 D.nx:=by
 obtain⟨B,E,xs,Xs,E',fl,fr,cl,e,q⟩:=z
 obtain⟨⟨s,E1⟩,e1,e⟩:=Za.mp e
 obtain⟨⟨s',E2⟩,e2,e⟩:=Za.mp e
 refine⟨B,E,xs,Xs,s,E1,fr,fun _=>Calm.nil cl,e1,fun v H1 ⟨F,A,fr1⟩=>?_⟩
 obtain⟨c1,F2,A2,fr2⟩:=fr1.settle cl e2
 simp only at e
 split at e
 ·rename_i hi
  cases e
  obtain⟨A3,fr3⟩:=fr2.store c1 (Still.nil cl) hi
  exact q _ _ ⟨F2,A3,fr3⟩
 ·cases e
section
variable {X:Cx} {elt target iter:Expr} {scope sc:Scope} {cl:List (Str×Addr)} {N:List Str} {pos spos px:Pos} {js:List (Option Nat)} {x:Str}
theorem yu{m m3:Bool}{it:lB}{tg:gB}{el:bL}(i:Nat)(hN:X.N.Nodup)(C:CompOk X scope sc cl N js)(hc:X.calm=true)(h:IX X target iter m it)(hg:∀C s₀ H₀ fp,GX (X.comp sc cl N C s₀ H₀ fp) target tg)(he:∀C s₀ H₀ fp,EX (X.comp sc cl N C s₀ H₀ fp) elt m3 el)
  (hi:X.N[i]? =some x:=by rfl) (hx:BM X.env.scope x:=by first |exact Or.inl rfl |exact Or.inr rfl) (hf:X.fn x=true∨X.env.scope.names.lookup x=some .local:=by first |exact .inl rfl |exact .inr rfl |assumption)
  (hs:∀x,foldedSetIterable iter X.env x=pure x:=by intro _;rfl) (hsw:swapsWith (.ListComp elt [⟨target,iter,[],0⟩] scope pos) (some (.Name x px)) spos.line X.env=pure true:=by rfl):
  SX X (.Assign [.Name x px] (.ListComp elt [⟨target,iter,[],0⟩] scope pos) spos) (au i (aP js it tg aL el)):=
 jZ (Aw (g:=rg X.K tg) (te:=rd X.K m3 el) C hc (qe hN hi hx hf) h hg (fun _ _ _ _=>qp) he hs hsw) fun D σ H z=>mZ (m2:=false) (fun σ H Q z=>by
  obtain⟨B,E,xs,Xs,b,E',fr,cl,e,q⟩:=z
  cases e
  exact q _ fr) (C5 z)
end
def EA:Const→Option Int
 |.int i=>some i
 |_=>none
def C6:Expr→Option Int
 | .Constant c _ _=>EA c
 |_=>none
def jA:List Expr→Option (List Int)
 |[]=>some []
 |e::r=>(C6 e).bind fun i=>(jA r).map (i:: ·)
def yw(ns:List Int):lB:=fun E=>some (ns.map .int,E)
theorem C7{e:Expr}{i:Int}(h:C6 e=some i):∃k p,e= .Constant (.int i) k p:=by
 unfold C6 at h
 split at h
 ·unfold EA at h
  split at h
  ·cases h;exact⟨_,_,rfl⟩
  ·cases h
 ·cases h
theorem vH{X:Cx}:∀{es:List Expr} {ns:List Int},jA es=some ns→DX X es false (yw ns)
 |[],ns,h=>by cases h;exact dl
 |e::es,ns,h=>by
  obtain⟨i,h0,h⟩:=Za.mp h
  obtain⟨ms,h1,h⟩:=Zae.mp h
  subst h
  obtain⟨k,p,rfl⟩:=C7 h0
  exact cr (m1:=false) (m2:=false) ak (vH h1) rfl
def EB(body:List Stmt)(k:Nat):List Expr:=match body[k]? with
 |some (.Assign _ (.Subscript (.List es _) _ _) _)=>es
 |_=>[]
def FM(es:List Expr):Stmt→Stmt
 | .Assign t (.Subscript (.List _ p) i q) r=> .Assign t (.Subscript (.List es p) i q) r
 |s=>s
def C8(es:List Expr):Nat→List Stmt→List Stmt
 |_,[]=>[]
 | 0,s::r=>FM es s::r
 |k+1,s::r=>s::C8 es k r
theorem uF{X:Cx}{body:List Stmt}{g:dN}(k:Nat)(ns:List Int)(h:jA (EB body k)=some ns)(hb:C8 (EB body k) k body=body)(key:∀es,jA es=some ns→wC X (C8 es k body) g):wC X body g:=by
 have:=key _ h
 rw[hb]at this
 exact this
end PL
namespace PL
open PySem L2 Nh
theorem iz{α:Type}(xs:List α)(k:Nat):atI xs (k:Int)=xs[k]? :=by
 unfold atI DN
 rw[if_pos (by omega)]
 split
 ·simp
 ·rw[List.getElem?_eq_none (by omega)];rfl
theorem iX{α:Type}(a:α)(l:List α):atI (a::l) 0=some a:=iz (a::l) 0
theorem o9{α:Type}(a b:α)(l:List α):atI (a::b::l) 1=some b:=iz (a::b::l) 1
theorem hJ{α:Type}(l:List α)(a:α):atI (l++[a]) (-1)=some a:=by
 unfold atI DN
 rw[if_neg (by omega),if_pos (by simp;omega)]
 have e:(-1+(((l++[a]).length:Nat):Int)).toNat=l.length:=by simp;omega
 rw[e]
 simp
theorem C9{α:Type}{xs:List α}{i:Int}(h:0≤i):atI xs i=xs[i.toNat]? :=by
 have e:i=((i.toNat:Nat):Int):=by omega
 rw[e,iz,Int.toNat_natCast]
theorem jB{α:Type}(l:List α)(a:α):(l++[a])[(l++[a]).length - 1]? =some a:=by simp
theorem m5{α:Type}(l:List α)(a:α):(l++[a]).isEmpty=false:=by cases l <;> rfl
theorem o_:∀{a:List PyData},(∀d∈a,cS d=true)→bH a=true
 |[],_=>rfl
 |x::a,h=>by simp[bH,h x (ir ..),o_ fun d hd=>h d (g6 _ hd)]
theorem wJ{α:Type}{f:α→PyData}(h:∀a,cS (f a)=true)(l:List α):bH (l.map f)=true:=o_ fun d hd=>by
 obtain⟨a,_,rfl⟩:=Zba.mp hd
 exact h a
theorem AJ(p:Pc):cS (aj p)=true:=rfl
theorem dS(c:List Pc):bH (c.map aj)=true:=wJ AJ c
def cutL{α:Type}(l:List α)(lo hi:Option Int):List α:=(l.drop (HT.nr l.length 0 lo)).take (HT.nr l.length l.length hi - HT.nr l.length 0 lo)
theorem sv{α:Type}(f:α→PyData)(l:List α)(lo hi:Option Int):uB (l.map f) lo hi=(cutL l lo hi).map f:=by
 unfold uB cutL
 rw[eQ,List.map_take,List.map_drop]
theorem kJ{α:Type}(l:List α)(lo hi:Option Int):(cutL l lo hi).length≤l.length:=by
 unfold cutL
 rw[List.length_take,List.length_drop]
 omega
theorem wK{α:Type}(l:List α){m:Int}(h:0≤m):((cutL l none (some m)).length:Int)≤m:=by
 unfold cutL
 have e:m=((m.toNat:Nat):Int):=by omega
 have z:HT.nr l.length l.length (some m)≤m.toNat:=by
  rw[e,HT.Aj,Int.toNat_natCast]
  exact Nat.min_le_left _ _
 rw[List.length_take,List.length_drop]
 omega
theorem kK{α:Type}{l:List α}{lo hi:Option Int}{x:α}(h:x∈cutL l lo hi):x∈l:=List.mem_of_mem_drop (List.mem_of_mem_take h)
theorem lQ(lo:Int)(n:Nat):jd lo (n+1)=.int lo::jd (lo+1) n:=by
 unfold jd
 rw[List.range_succ_eq_map,ce,List.map_map]
 simp only[Int.natCast_zero,Int.add_zero]
 congr 1
 refine List.map_congr_left fun k _=>?_
 show PyData.int (lo+((k+1:Nat):Int))=PyData.int (lo+1+(k:Int))
 congr 1
 omega
end PL
namespace L2
open PySem PySem.Spec PyProof.Rows
def DP(x:Str):It:=⟨fun i _=>i < x.cps.toList.length,fun i H v H'=>H'=H∧∃c,x.cps.toList[i]? =some c∧v=.str ⟨#[c]⟩,fun i _=>i=x.cps.toList.length⟩
theorem sx {P:Program} {w:World} {K:Frag} {tg:Expr} {it:Addr} {T:String} {x:Str} {t:Tok} (hT:T="str_ascii_iterator"∨T="str_iterator"):Turn P w K tg (DP x) [it] it (fun i h=>h.IsStrIter it T x t i) where
 mem:=by simp
 obj:=fun i h st b hb=>by
  have e:b=it:=by simpa using hb
  subst e
  obtain⟨o,e,c,d⟩:=st
  exact⟨o,e,fun v z=>by rw[d]at z;cases z⟩
 keep:=fun i h h' st k=>let ⟨o,ho,r⟩:=st;⟨o,k it (by simp) o ho,r⟩
 item:=by
  intro X hP hw hK hc i pins s σ H E I hf st hg
  subst hP hw hK
  obtain⟨f0,f1,f2,f3,f4,f5⟩:=hf it (by simp)
  have hi:i < x.cps.toList.length:=hg
  have hx:x.cps[i]? =some (x.cps.toList[i]'hi):=by simp at hi;simp[hi]
  have fin:∀(h':Heap),h'.IsStrIter it T x t (i+1)→Heap.SameBut it s.heap h'→∃u,some (Value.str ⟨#[x.cps.toList[i]'hi]⟩ s.toks)=some u∧
    wpAny (model X.prog X.w) X.A (letOwnedTupleGo tg (.ref it) u) (fun _ s2=>∃v H',Inv X pins σ H' s2∧RelV v u∧(DP x).yld i H v H'∧s2.heap.IsStrIter it T x t (i+1)∧∀b∈[it],H' b=none) E {s with heap:=h',toks:=s.toks+1}:=fun h' st' sb=>by
   have I1:Inv X pins σ H {s with heap:=h',toks:=s.toks+1}:=I.turned (t':=s.toks+1) (fun b o hb e=>(sb.2 b hb).trans e) f0 f1 f3 f4 f5
   obtain⟨o,e,c,d⟩:=id st'
   exact⟨_,rfl,rR (s:={s with heap:=h',toks:=s.toks+1}) e c d (by rcases hT with rfl |rfl <;> decide) ⟨.str ⟨#[x.cps.toList[i]'hi]⟩,H,I1,⟨_,rfl⟩,⟨rfl,_,wc hi,rfl⟩,st',fun b hb=>(hf b hb).1⟩⟩
  rcases hT with rfl |rfl
  ·exact wpAny_pyNext_ascii_item st hx fun h' st' sb=>fin h' st' sb
  ·exact wpAny_pyNext_wide_item st hx fun h' st' sb=>fin h' st' sb
 done:=by
  intro X hP hw hK hc i pins s σ H E I hf st hg
  subst hP hw hK
  obtain⟨f0,f1,f2,f3,f4,f5⟩:=hf it (by simp)
  have hi:i=x.cps.toList.length:=hg
  have hx:x.cps[i]? =none:=by simp at hi;simp[hi]
  rcases hT with rfl |rfl
  ·exact wpAny_pyNext_ascii_end (I.ok.hd hc) st hx fun h' eb=>⟨rfl,I.turned (t':=s.toks) (fun b o hb e=>eb b o hb e) f0 f1 f3 f4 f5⟩
  ·exact wpAny_pyNext_wide_end (I.ok.hd hc) st hx fun h' eb=>⟨rfl,I.turned (t':=s.toks) (fun b o hb e=>eb b o hb e) f0 f1 f3 f4 f5⟩
 self:=fun _ _ _ _ _ st h=>by
  rcases hT with rfl |rfl
  ·exact wpAny_pyIter_striter_ascii st h
  ·exact wpAny_pyIter_striter_wide st h
def uG(tl:TE):TI:=fun σ H R=>tl σ H fun v H1=>∃x,v=.str x∧R (DP x) H1
theorem C_{X:Cx}{tg l:Expr}{tl:TE}(hl:PE X l tl):PI X tg l (uG tl):=by
 intro pins s σ H R I h
 refine dJ (hl pins s σ H _ I h) fun v s1 ⟨y,H1,I1,r1,q1⟩=>?_
 obtain⟨x,e,q⟩:=q1
 subst e
 obtain⟨t,rfl⟩:=r1
 refine wpAny_pyIter_strU ?_
 refine⟨s1.heap.objs.size,[s1.heap.objs.size],fun i h=>h.IsStrIter s1.heap.objs.size (strIterType x) x t i,_,H1,rfl,I1.kept (t':=s1.toks) fun b o e=>gz _ e,sx (t:=t) ?_,⟨_,jU _ rfl,rfl,rfl⟩,fun b hb=>?_,q⟩
 ·unfold strIterType
  split
  ·exact .inl rfl
  ·exact .inr rfl
 ·have e:b=s1.heap.objs.size:=by simpa using hb
  subst e
  exact I1.fpOk (fS _) (I1.hok.fresh (fS _))
theorem PI.or{X:Cx}{tg l:Expr}{a b:TI}(h1:PI X tg l a)(h2:PI X tg l b):PI X tg l (fun σ H R=>a σ H R∨b σ H R):=by
 intro pins s σ H R I h
 rcases h with h |h
 ·exact h1 pins s σ H R I h
 ·exact h2 pins s σ H R I h
end L2
namespace PL
open PySem L2 Nh
def gv(x:Str):List PyData:=x.cps.toList.map fun c=>.str ⟨#[c]⟩
def aW(f:bL):lB:=fun E=>(f E).bind fun a=>(frz a.2 a.1).bind fun b=>match b.1 with
 |.list ds=>some (ds,b.2)
 |.tuple ds=>some (ds,b.2)
 |.str x=>some (gv x,b.2)
 |_=>none
section
variable {X:Cx} {K:Frag} {B:Hp}
theorem sy{x:Str}:uE K B (DP x) (gv x):=fun {B' F A σ H E xs Xs} i sB fr=>by
 refine⟨fun d ed=>?_,fun e=>by show i=x.cps.toList.length;rw[e];simp[gv]⟩
 unfold gv at ed
 rw[we]at ed
 obtain⟨c,ec,rfl⟩:=Zae.mp ed
 refine⟨(List.getElem?_eq_some_iff.mp ec).1,fun z H2 ⟨e1,c',e2,e3⟩=>?_⟩
 rw[ec]at e2;cases e2
 subst e1 e3
 exact⟨F,A,fr.push ⟨rfl,_,rfl,.str _⟩⟩
theorem yz{a:Addr}{vs:List V}{ds:List PyData}(h:SqT K B a vs)(r:RpA K B vs ds):uE K B (Fs K a) ds:=fun {B' F A σ H E xs Xs} i sB fr=>by
 have hH:=fr.fh.tup (fr.bf.tup (sB.tup h))
 refine⟨fun d ed=>?_,fun e=>⟨vs,hH,by rw[e,r.len];exact fS _⟩⟩
 obtain⟨v,ev,rv⟩:=r.get ed
 refine⟨⟨vs,v,hH,ev⟩,fun x H2 ⟨e2,y⟩=>?_⟩
 subst e2
 have:=y vs hH
 rw[ev]at this
 cases this
 exact⟨F,A,fr.push ⟨rfl,_,rfl,rv.same (sB.trans fr.bf)⟩⟩
theorem cV{tg e:Expr}{m:Bool}{f:bL}(he:EX X e m f):IX X tg e m (aW f):=qG (PI.or (qf he) (PI.or (Cy he) (C_ he))) fun σ H R z=>by
 obtain⟨B,E,xs,Xs,ds,E',fr,cl,e,q⟩:=z
 obtain⟨⟨s,E1⟩,e1,e⟩:=Za.mp e
 obtain⟨⟨d,E2⟩,e2,e⟩:=Za.mp e
 have key:∀(v:V) (H1:Hp),Frm X.K B σ H1 E1 (v::xs) (s::Xs)→∃F2 A2 A3,Rp X.K F2 v d∧Same B F2∧FrF X.K F2 F2 A3 σ H1 E2 xs Xs∧FrF X.K B F2 A2 σ H1 E2 (v::xs) (.sh d::Xs):=fun v H1 ⟨F,A,fr1⟩=>by
  obtain⟨F2,A2,fr2⟩:=fr1.frz0 e2
  obtain⟨v',A1,ev,rfl,w,ew,r⟩:=fr2.ext (k:=0) rfl
  cases ev;cases ew
  obtain⟨A3,fr3⟩:=fr2.pop
  exact⟨F2,A2,A3,r,fr2.bf,fr3.raise,fr2⟩
 simp only at e
 split at e
 ·cases e
  refine .inl ⟨B,E,xs,Xs,s,E1,fr,cl,e1,fun v H1 fr1=>?_⟩
  obtain⟨F2,A2,A3,r,sb,fr3,fr2⟩:=key v H1 fr1
  cases r with
  |lst h1 h2=>exact⟨_,rfl,⟨_,fr2.fh.seq h1⟩,q F2 _ _ sb ⟨F2,A3,fr3⟩ (o4 h1 h2)⟩
 ·cases e
  refine .inr (.inl ⟨B,E,xs,Xs,s,E1,fr,cl,e1,fun v H1 fr1=>?_⟩)
  obtain⟨F2,A2,A3,r,sb,fr3,fr2⟩:=key v H1 fr1
  cases r with
  |tup h1 h2=>exact⟨_,rfl,⟨_,fr2.fh.tup h1⟩,q F2 _ _ sb ⟨F2,A3,fr3⟩ (yz h1 h2)⟩
 ·cases e
  refine .inr (.inr ⟨B,E,xs,Xs,s,E1,fr,cl,e1,fun v H1 fr1=>?_⟩)
  obtain⟨F2,A2,A3,r,sb,fr3,fr2⟩:=key v H1 fr1
  cases r
  exact⟨_,rfl,q F2 _ _ sb ⟨F2,A3,fr3⟩ sy⟩
 ·cases e
end
end PL
namespace PL
open PySem L2 Nh
inductive Cm where
 |lt |le |gt |ge
def Cm.op:Cm→CmpOp
 |.lt=> .Lt
 |.le=> .LtE
 |.gt=> .Gt
 |.ge=> .GtE
def Cm.i:Cm→Int→Int→Bool
 |.lt,i,j=>decide (i < j)
 |.le,i,j=>decide (i≤j)
 |.gt,i,j=>decide (j < i)
 |.ge,i,j=>decide (j≤i)
def Cm.s:Cm→List Nat→List Nat→Bool
 |.lt,i,j=>decide (i < j)
 |.le,i,j=> !decide (j < i)
 |.gt,i,j=>decide (j < i)
 |.ge,i,j=> !decide (i < j)
def fB(c:Cm):PyData→PyData→Option PyData
 |.int i,.int j=>some (.bool (c.i i j))
 |.str x,.str y=>some (.bool (c.s x.cps.toList y.cps.toList))
 |_,_=>none
def Gb(c:Cm):R2:=fun x y H Q=>(∃i j,x=.int i∧y=.int j∧Q (.bl (c.i i j)) H)∨(∃i j,x=.str i∧y=.str j∧Q (.bl (c.s i.cps.toList j.cps.toList)) H)
section
variable {X:Cx} {a b c:Expr} {m1 m2 m3:Bool} {f g h:bL} {pos:Pos} {K:Frag}
theorem pe(c:Cm):OpR X (compareOp c.op) (Gb c):=by
 cases c with
 |lt=>exact OpR.or Ea wn
 |le=>exact OpR.or Ec (fun pins s σ H x y v u Q I rx ry h=>by
   obtain⟨i,j,rfl,rfl,q⟩:=h
   obtain⟨t,rfl⟩:=rx
   obtain⟨t',rfl⟩:=ry
   exact PySem.P.le_str (bd I q rfl))
 |gt=>exact OpR.or Ed (fun pins s σ H x y v u Q I rx ry h=>by
   obtain⟨i,j,rfl,rfl,q⟩:=h
   obtain⟨t,rfl⟩:=rx
   obtain⟨t',rfl⟩:=ry
   exact PySem.P.gt_str (bd I q rfl))
 |ge=>exact OpR.or Ee (fun pins s σ H x y v u Q I rx ry h=>by
   obtain⟨i,j,rfl,rfl,q⟩:=h
   obtain⟨t,rfl⟩:=rx
   obtain⟨t',rfl⟩:=ry
   exact PySem.P.ge_str (bd I q rfl))
theorem pi(c:Cm):sf K (Gb c) (fB c):=fun d1 d2 d v1 v2 H Q e r1 r2=>by
 unfold fB at e
 split at e
 ·cases e;cases r1;cases r2
  exact⟨_,rfl,fun q=>.inl ⟨_,_,rfl,rfl,q⟩⟩
 ·cases e;cases r1;cases r2
  exact⟨_,rfl,fun q=>.inr ⟨_,_,rfl,rfl,q⟩⟩
 ·cases e
theorem pj(c:Cm)(b:Expr):behindInMarks c.op b=false:=by cases c <;> exact nj _
theorem EC(c:Cm)(ha:EX X a m1 f)(hb:EX X b m2 g):EX X (.Compare a [c.op] [b] pos) (m1||m2) (ae (eC (fB c)) m2 f g):=qA (pe c) (i_ (pi c)) ha hb (pj c b)
theorem yA(c:Cm)(ha:EX X a m1 f)(hb:EX X b m2 g):TX X (.Compare a [c.op] [b] pos) (m1||m2) (cN (ae (eC (fB c)) m2 f g)):=ny (pe c) (i_ (pi c)) ha hb (pj c b)
theorem ED(c1 c2:Cm)(ha:EX X a m1 f)(hb:EX X b m2 g)(hc:EX X c m3 h)(hm:lastMarks [c1.op,c2.op] [b,c]=false:=by with_unfolding_all rfl):EX X (.Compare a [c1.op,c2.op] [b,c] pos) (m1||(m2||m3)) (gN (fB c1) (fB c2) m2 m3 f g h):=yj (pe c1) (pe c2) (pi c1) (pi c2) ha hb hc hm
theorem EE(c1 c2:Cm)(ha:EX X a m1 f)(hb:EX X b m2 g)(hc:EX X c m3 h)(hm:lastMarks [c1.op,c2.op] [b,c]=false:=by with_unfolding_all rfl):TX X (.Compare a [c1.op,c2.op] [b,c] pos) (m1||(m2||m3)) (cN (gN (fB c1) (fB c2) m2 m3 f g h)):=ym (pe c1) (pe c2) (pi c1) (pi c2) ha hb hc hm
def uH:P2:=eC (ja (fun _ _=>true) fun i j=>.int (Builtin.bitAnd i j))
theorem vI(ha:EX X a m1 f)(hb:EX X b m2 g):EX X (.BinOp a .BitAnd b pos) (m1||m2) (ae uH m2 f g):=nw (r:=CW (fun _ _=>true) fun i j=>.int (Builtin.bitAnd i j)) (OpR.imp CH fun x y H Q ⟨i,j,a,b,_,q⟩=>⟨i,j,a,b,q⟩) (nz fun _ _=>rfl) ha hb
def isInt:PyData→Option Int
 |.int x=>some x
 |_=>none
def ij:List PyData→Option (List Str)
 |[]=>some []
 |.str x::ds=>(ij ds).map fun xs=>x::xs
 |_::_=>none
def qI:List PyData→Option (List Int)
 |[]=>some []
 |.int x::ds=>(qI ds).map fun xs=>x::xs
 |_::_=>none
theorem iA:∀{ds:List PyData} {xs:List Str},ij ds=some xs→ds=xs.map .str
 |[],xs,h=>by cases h;rfl
 |d::ds,xs,h=>by
  cases d with
  |str x=>
   obtain⟨ys,e,rfl⟩:=Zae.mp h
   rw[iA e];rfl
  |_=>cases h
theorem lR:∀{ds:List PyData} {xs:List Int},qI ds=some xs→ds=xs.map .int
 |[],xs,h=>by cases h;rfl
 |d::ds,xs,h=>by
  cases d with
  |int x=>
   obtain⟨ys,e,rfl⟩:=Zae.mp h
   rw[lR e];rfl
  |_=>cases h
theorem je{H:Hp}:∀{vs:List V} {xs:List Str},RpA K H vs (xs.map .str)→vs=xs.map .str
 |[],[],_=>rfl
 |v::vs,x::xs,.cons h r=>by cases h;rw[je r];rfl
theorem nM{H:Hp}:∀{vs:List V} {xs:List Int},RpA K H vs (xs.map .int)→vs=xs.map .int
 |[],[],_=>rfl
 |v::vs,x::xs,.cons h r=>by cases h;rw[nM r];rfl
def B4:PyData→PyData→Option Bool
 |.str x,.str y=>some (!(Builtin.Str.occurrences y x 0 y.length 1).isEmpty)
 |.str x,.list ds=>(ij ds).map fun xs=>xs.contains x
 |.str x,.tuple ds=>(ij ds).map fun xs=>xs.contains x
 |.int x,.list ds=>(qI ds).map fun xs=>xs.contains x
 |.int x,.tuple ds=>(qI ds).map fun xs=>xs.contains x
 |_,_=>none
def Da(K:Frag)(neg:Bool):R2:=fun x y H Q=>(∃i j,x=.str i∧y=.str j∧Q (.bl (if neg then !(!(Builtin.Str.occurrences j i 0 j.length 1).isEmpty)else !(Builtin.Str.occurrences j i 0 j.length 1).isEmpty)) H)∨FA K neg x y H Q
theorem sC(x:Str)(xs:List Str):DO (.str x) (xs.map .str)=xs.contains x:=by
 induction xs with
 |nil=>rfl
 |cons y xs ih=>
  rw[List.contains_cons,←ih]
  show(zT (.str y) (.str x)||DO (.str x) (xs.map .str))=_
  congr 1
  show(y == x)=(x == y)
  exact BEq.comm
theorem sD(x:Int)(xs:List Int):DO (.int x) (xs.map .int)=xs.contains x:=by
 induction xs with
 |nil=>rfl
 |cons y xs ih=>
  rw[List.contains_cons,←ih]
  show(zT (.int y) (.int x)||DO (.int x) (xs.map .int))=_
  congr 1
  show(y == x)=(x == y)
  exact BEq.comm
theorem uI(neg:Bool):sf K (Da K neg) (fun d1 d2=>(B4 d1 d2).map fun b=>.bool (if neg then !b else b)):=fun d1 d2 d v1 v2 H Q e r1 r2=>by
 obtain⟨b,e',rfl⟩:=Zae.mp e
 clear e
 have e:=e'
 clear e'
 refine⟨_,rfl,fun q=>?_⟩
 have hs:∀xs:List Str,(xs.map V.str).all iW=true:=fun xs=>by simp[List.all_eq_true,iW]
 have hi:∀xs:List Int,(xs.map V.int).all iW=true:=fun xs=>by simp[List.all_eq_true,iW]
 unfold B4 at e
 split at e
 ·cases e;cases r1;cases r2
  exact .inl ⟨_,_,rfl,rfl,q⟩
 ·obtain⟨xs,ex,rfl⟩:=Zae.mp e
  cases r1
  cases r2 with
  |lst h1 h2=>
   rw[iA ex]at h2
   rw[je h2]at h1
   exact .inr ⟨_,_,rfl,.inl h1,rfl,hs _,by rw[sC];exact q⟩
 ·obtain⟨xs,ex,rfl⟩:=Zae.mp e
  cases r1
  cases r2 with
  |tup h1 h2=>
   rw[iA ex]at h2
   rw[je h2]at h1
   exact .inr ⟨_,_,rfl,.inr h1,rfl,hs _,by rw[sC];exact q⟩
 ·obtain⟨xs,ex,rfl⟩:=Zae.mp e
  cases r1
  cases r2 with
  |lst h1 h2=>
   rw[lR ex]at h2
   rw[nM h2]at h1
   exact .inr ⟨_,_,rfl,.inl h1,rfl,hi _,by rw[sD];exact q⟩
 ·obtain⟨xs,ex,rfl⟩:=Zae.mp e
  cases r1
  cases r2 with
  |tup h1 h2=>
   rw[lR ex]at h2
   rw[nM h2]at h1
   exact .inr ⟨_,_,rfl,.inr h1,rfl,hi _,by rw[sD];exact q⟩
 ·cases e
def wL(neg:Bool):P2:=eC fun d1 d2=>(B4 d1 d2).map fun b=>.bool (if neg then !b else b)
theorem yB:OpR X (compareOp .In) (Da X.K false):=OpR.or wo ww
theorem wM:OpR X (compareOp .NotIn) (Da X.K true):=OpR.or qj qi
theorem EF(ha:EX X a m1 f)(hb:EX X b m2 g)(hm:behindInMarks .In b=false:=by with_unfolding_all rfl):EX X (.Compare a [.In] [b] pos) (m1||m2) (ae (wL false) m2 f g):=qA yB (i_ (uI false)) ha hb hm
theorem B5(ha:EX X a m1 f)(hb:EX X b m2 g)(hm:behindInMarks .In b=false:=by with_unfolding_all rfl):TX X (.Compare a [.In] [b] pos) (m1||m2) (cN (ae (wL false) m2 f g)):=ny yB (i_ (uI false)) ha hb hm
theorem Db(ha:EX X a m1 f)(hb:EX X b m2 g)(hm:behindInMarks .NotIn b=false:=by with_unfolding_all rfl):TX X (.Compare a [.NotIn] [b] pos) (m1||m2) (cN (ae (wL true) m2 f g)):=ny wM (i_ (uI true)) ha hb hm
end
def wN:List PyData→Option PyData
 |[.int i]=>some (.int i)
 |[.bool b]=>some (.int (if b then 1 else 0))
 |_=>none
def sE(x:Str):PyData→Option PyData
 |.list ds=>(ij ds).bind fun ys=>if (ys.map (·.length)).sum+ys.length*x.length≤1000000 then some (.str (Txt.join x ys))else none
 |.tuple ds=>(ij ds).bind fun ys=>if (ys.map (·.length)).sum+ys.length*x.length≤1000000 then some (.str (Txt.join x ys))else none
 |_=>none
theorem pq{ys:List Str}:∀{us:List Value},Vals (ys.map V.str) us→PyProof.Rows.StrsAre us ys:=by
 induction ys with
 |nil=>intro us h;cases h;exact .nil
 |cons y ys ih=>
  intro us h
  cases h with
  |cons h r=>
   obtain⟨t,rfl⟩:=h
   exact .cons y t (ih r)
def EG(K:Frag):V→List V→Hp→VK→Prop:=fun x vs H Q=>∃z p ys,x=.str z∧vs=[.ref p]∧(SqL K H p (ys.map .str)∨SqT K H p (ys.map .str))∧(ys.map (·.length)).sum+ys.length*z.length≤16777216∧Q (.str (Txt.join z ys)) H
theorem AK{X:Cx}:MtR X "str.join" (EG X.K):=by
 intro pins s σ H x vs v us Q I rx rv h
 obtain⟨z,p,ys,rfl,rfl,hq,hl,q⟩:=h
 obtain⟨t,rfl⟩:=rx
 obtain⟨u,rfl,ru⟩:=rv.one
 cases ru
 rcases hq with hq |hq
 ·obtain⟨its,r,pl,_⟩:=I.list hq
  exact PyProof.Rows.join_list pl.isList (by simpa using pq r) hl fun t' k=>⟨.str _,H,I.tok _,⟨_,rfl⟩,q⟩
 ·obtain⟨its,r,pl,_⟩:=I.tuple hq
  exact PyProof.Rows.join_tuple pl (by simpa using pq r) hl fun t' k=>⟨.str _,H,I.tok _,⟨_,rfl⟩,q⟩
section
variable {X:Cx} {e o:Expr} {m1 m2:Bool} {g:qw} {f h:bL} {p pos apos cpos:Pos} {K:Frag}
theorem AL (hg:Gl X "int") (hm:X.mg "int"=none) (ha:AX X [e] m1 g) (he:starEach [e] X.env=[(false,eval e X.env)]:=by rfl):EX X (.Call (.Name "int" p) [e] [] pos) m1 (bO wN g):=
 cf (lI wq hg hm PyProof.Rows.boot_int ha (by decide) (by decide) he rfl) fun _ _ _ z=>uC (fun ds d vs H Q e r=>by
  unfold wN at e
  split at e
  ·cases e
   obtain⟨v,rfl,r'⟩:=r.one
   cases r'
   exact⟨_,rfl,fun q=>.inl ⟨_,rfl,q⟩⟩
  ·cases e
   obtain⟨v,rfl,r'⟩:=r.one
   cases r'
   exact⟨_,rfl,fun q=>.inr ⟨_,rfl,q⟩⟩
  ·cases e) z
def kM(x:Str)(f:bL):bL:=iI (sE x) f
theorem qJ {x:Str} {j:Nat} {sp:Pos} (he:EX X e m1 f) (hs:starEach [e] X.env=[(false,eval e X.env)]:=by rfl) (hbase:attributeBase (.Constant (.str x) j sp) "join" X.env (eval (.Constant (.str x) j sp) X.env)=eval (.Constant (.str x) j sp) X.env:=by rfl)
  (hfew:((backTo cpos (starEach [e] X.env)).all (fun x=> !x.1)&&(backToKw cpos (keywordEach [] X.env)).all (fun x=>x.1.isSome)
   &&decide (([e]:List Expr).length+([]:List Keyword).length+(if ([]:List Keyword).isEmpty then 0 else 1) < 30))=true:=by rfl) (hline:(apos.endLine == cpos.line)=true:=by rfl):
  EX X (.Call (.Attribute (.Constant (.str x) j sp) "join" apos) [e] [] cpos) m1 (kM x f):=by
 refine cf (BR PySem.F.plainAttrs_str PySem.F.slot_str_join PySem.F.type_str_join AK (xK) (fT he iH hs) hbase hfew hline hs rfl) fun σ H Q z=>?_
 obtain⟨B,E,xs,Xs,res,E',fr,c,e,q⟩:=z
 obtain⟨⟨s1,E1⟩,e1,e⟩:=Za.mp e
 obtain⟨d1,e2,e⟩:=Za.mp e
 obtain⟨d,e3,e⟩:=Zae.mp e
 cases e
 refine⟨rfl,B,E,xs,Xs,s1,E1,fr,c,e1,fun v1 H1 ⟨F,A,fr1⟩=>?_⟩
 have r:=(fr1.look0 e2).1
 obtain⟨A',fr2⟩:=fr1.pop
 unfold sE at e3
 split at e3
 ·obtain⟨ys,ey,e3⟩:=Za.mp e3
  split at e3
  ·rename_i hl
   cases e3
   cases r with
   |lst h1 h2=>
    rw[iA ey]at h2
    rw[je h2]at h1
    exact⟨x,_,ys,rfl,rfl,.inl h1,by omega,q _ _ ⟨F,A',fr2.push ⟨rfl,_,rfl,.str _⟩⟩⟩
  ·cases e3
 ·obtain⟨ys,ey,e3⟩:=Za.mp e3
  split at e3
  ·rename_i hl
   cases e3
   cases r with
   |tup h1 h2=>
    rw[iA ey]at h2
    rw[je h2]at h1
    exact⟨x,_,ys,rfl,rfl,.inr h1,by omega,q _ _ ⟨F,A',fr2.push ⟨rfl,_,rfl,.str _⟩⟩⟩
  ·cases e3
 ·cases e3
end
theorem nN{X:Cx}{st:Stmt}:SX X st (fun _=>none):=jZ xM fun D σ H z=>by
 obtain⟨B,E,xs,Xs,E',fl,fr,cl,e,q⟩:=z
 cases e
def uJ:dN:=fun _=>none
end PL
namespace PL
open PySem L2 Nh
theorem Dc{X:Cx}:SlR X (fun x lo hi H Q=>∃z,x=.str z∧z.length≤sizeLine∧Q (.str (Txt.slice z lo hi)) H):=by
 intro pins s σ H x v vl vu lo hi sl Q I rx hs pl pu h
 obtain⟨z,rfl,hz,q⟩:=h
 obtain⟨t,rfl⟩:=rx
 cases pl with
 |none=>
  cases pu with
  |none=>exact⟨"str",_,PySem.F.slot_str_getitem.lookup,typeIs_str _ _ _,wpAny_getItem_str_slice (l:=none) (u:=none) (st:=none) hs rfl (post_val_or_str ⟨jK (Txt.slice_le z _ _) hz,fun t' k=>⟨.str _,H,I.tok _,⟨_,rfl⟩,q⟩⟩)⟩
  |int j uj=>exact⟨"str",_,PySem.F.slot_str_getitem.lookup,typeIs_str _ _ _,wpAny_getItem_str_slice (l:=none) (u:=some (j,uj)) (st:=none) hs rfl (post_val_or_str ⟨jK (Txt.slice_le z _ _) hz,fun t' k=>⟨.str _,H,I.tok _,⟨_,rfl⟩,q⟩⟩)⟩
 |int i ui=>
  cases pu with
  |none=>exact⟨"str",_,PySem.F.slot_str_getitem.lookup,typeIs_str _ _ _,wpAny_getItem_str_slice (l:=some (i,ui)) (u:=none) (st:=none) hs rfl (post_val_or_str ⟨jK (Txt.slice_le z _ _) hz,fun t' k=>⟨.str _,H,I.tok _,⟨_,rfl⟩,q⟩⟩)⟩
  |int j uj=>exact⟨"str",_,PySem.F.slot_str_getitem.lookup,typeIs_str _ _ _,wpAny_getItem_str_slice (l:=some (i,ui)) (u:=some (j,uj)) (st:=none) hs rfl (post_val_or_str ⟨jK (Txt.slice_le z _ _) hz,fun t' k=>⟨.str _,H,I.tok _,⟨_,rfl⟩,q⟩⟩)⟩
def j5(m2:Bool)(f:bL)(lo hi:C3):bL:=fun E=>(f E).bind fun a=>if m2&&a.1.isBr then none else (lo a.2).bind fun b=>(hi b.2).bind fun c=>match look c.2 a.1 with
 |some (.list ds)=>if !eL c.2 a.1||bH (uB ds b.1 c.1)then some (.ow (uB ds b.1 c.1),c.2)else none
 |some (.str z)=>if z.length≤1000000 then some (.sh (.str (Txt.slice z b.1 c.1)),c.2)else none
 |_=>none
theorem uK{X:Cx}{e:Expr}{lo hi:Option Expr}{m1 m2 m3:Bool}{f:bL}{g h:C3}{pos p2:Pos}(he:EX X e m1 f)(hl:OX X lo m2 g)(hh:OX X hi m3 h):EX X (.Subscript e (.Slice lo hi none p2) pos) (m1||(m2||m3)) (j5 (m2||m3) f g h):=by
 refine cf (xX (SlR.or Ao Dc) he hl hh) fun σ H Q z=>?_
 obtain⟨B,E,xs,Xs,res,E',fr,cl,e,q⟩:=z
 obtain⟨⟨s,E1⟩,e1,e⟩:=Za.mp e
 by_cases hb:((m2||m3)&&s.isBr)=true
 ·rw[if_pos hb]at e;cases e
 rw[if_neg hb]at e
 have n1:(m2||m3)=true→s.isBr=false:=fun z=>by
  cases hs:s.isBr with
  |false=>rfl
  |true=>exact absurd (by rw[z,hs];rfl) hb
 obtain⟨⟨l,E2⟩,e2,e⟩:=Za.mp e
 obtain⟨⟨u,E3⟩,e3,e⟩:=Za.mp e
 refine⟨B,E,xs,Xs,s,E1,fr,fun z=>cl (by simp[z]),e1,fun v1 H1 fr1=>?_⟩
 refine⟨B,E1,v1::xs,s::Xs,l,E2,fr1,fun z=>Calm.cons (cl (by simp[z])) (n1 (by simp[z])),e2,fun H2 fr2=>?_⟩
 refine⟨B,E2,v1::xs,s::Xs,u,E3,fr2,fun z=>Calm.cons (cl (by simp[z])) (n1 (by simp[z])),e3,fun H3 ⟨F,A,fr3⟩=>?_⟩
 simp only at e
 split at e
 ·rename_i ds ld
  split at e
  ·rename_i hc
   cases e
   obtain⟨v,ev,r,f0⟩:=fr3.look (k:=0) rfl ld
   cases ev
   obtain⟨A',fr4⟩:=fr3.pop
   cases hh:eL E' s with
   |false=>
    obtain⟨a,vs,rfl,h1,h2⟩:=f0 hh
    exact .inl ⟨a,vs,rfl,h1,fun p hp=>q _ _ ⟨F,_,fr4.newl (h2.cut l u) hp⟩⟩
   |true=>
    rw[hh]at hc
    cases r with
    |lst h1 h2=>exact .inl ⟨_,_,rfl,h1,fun p hp=>q _ _ ⟨F,_,fr4.newl (fr3.coldA (h2.cut l u) (by simpa using hc)) hp⟩⟩
  ·cases e
 ·rename_i z ld
  split at e
  ·rename_i hc
   cases e
   have r:=(fr3.look0 ld).1
   cases r
   obtain⟨A',fr4⟩:=fr3.pop
   exact .inr ⟨_,rfl,ie hc,q _ _ ⟨F,A',fr4.push ⟨rfl,_,rfl,.str _⟩⟩⟩
  ·cases e
 ·cases e
def kN(i:Nat):bL:=fun E=>match E[i]? with
 |some (.ow ds)=>some (.sh .none,E.set i (.ow ds.reverse))
 |_=>none
section
variable {X:Cx} {e:Expr} {m1:Bool} {f:bL} {x:Str} {p apos cpos:Pos}
theorem uL (i:Nat) (hN:X.N[i]? =some x:=by rfl) (hv:zS X.env.scope x:=by first |exact Or.inl rfl |exact Or.inr (Or.inl rfl) |exact Or.inr (Or.inr rfl)) (hd:(x == ("__debug__":Str))=false:=by decide) (hcd:(x == ("__classdict__":Str))=false:=by decide)
  (hbase:attributeBase (.Name x p) "reverse" X.env (eval (.Name x p) X.env)=eval (.Name x p) X.env:=by rfl) (hline:(apos.endLine == cpos.line)=true:=by rfl):
  EX X (.Call (.Attribute (.Name x p) "reverse" apos) [] [] cpos) true (kN i):=by
 refine cf (x8 PySem.F.plainAttrs_list PySem.F.slot_list_reverse PySem.F.type_list_reverse ut (nh hN hv hd hcd) hbase hline) fun σ H Q z=>?_
 obtain⟨B,E,xs,Xs,res,E',⟨F,A,fr⟩,cl,e,q⟩:=z
 unfold kN at e
 split at e
 ·rename_i ds ei
  cases e
  obtain⟨l,vs,eo,hl,r,put⟩:=fr.mut ei (cl rfl)
  have fr2:=put vs.reverse ds.reverse r.rev
  exact⟨_,eo,.inl ⟨rfl,_,SqL.of hl⟩,l,vs,rfl,rfl,hl,q _ _ ⟨_,_,fr2.push ⟨rfl,_,rfl,.non⟩⟩⟩
 ·cases e
end
def sG(scope:Scope)(env:Env):List (Str×Addr):=((scope.names.filter fun p=>p.2 ==.free).map fun p=>(p.1,(env.cells.lookup p.1).getD 0)).reverse
theorem eT{X:Cx}{scope:Scope}{N:List Str}{js:List (Option Nat)}(clos:closureFor scope X.env=pure (sG scope X.env):=by rfl)(nocell:∀y∈scope.names,y.2≠ .cell:=by decide+kernel)(kind:scope.kind=.function:=by rfl)
  (names:∀y∈scope.names,y.2=.local→scope.names.lookup y.1=some .local:=by decide+kernel) (same:(scope.names.filter fun p=>p.2 ==.free).all (fun p=>(X.env.cells.lookup p.1).isSome)=true:=by rfl)
  (has:(relabel scope X.env).names.all (fun y=> !(y.2 ==.cell||y.2 ==.free)||((sG scope X.env).lookup y.1).isSome)=true:=by rfl) (len:js.length=N.length:=by rfl)
  (fr:(js.zip N).all (fun p=>match p.1 with |none=>true |some j=>X.N[j]? == some p.2&&((relabel scope X.env).names.lookup p.2 == some .cell||(relabel scope X.env).names.lookup p.2 == some .free)&&(X.env.kindOf p.2 == some .cell||X.env.kindOf p.2 == some .free))=true:=by rfl):
  CompOk X scope (relabel scope X.env) (sG scope X.env) N js where
 clos:=clos
 rel:=rfl
 nocell:=nocell
 kind:=kind
 names:=names
 same:=fun x c e=>by
  have hm:=PySem.mem_of_lookup e
  unfold sG at hm
  obtain⟨p,hp,ep⟩:=Zba.mp (List.mem_reverse.mp hm)
  have:=List.all_eq_true.mp same _ hp
  obtain⟨c',ec⟩:=Option.isSome_iff_exists.mp this
  injection ep with e1 e2
  subst e1
  rw[ec]at e2 ⊢
  exact congrArg some e2
 has:=fun x h=>by
  have key:∀k,(relabel scope X.env).names.lookup x=some k→(k == NameKind.cell||k == NameKind.free)=true→∃c,(sG scope X.env).lookup x=some c:=fun k h hk=>by
   have:=List.all_eq_true.mp has _ (PySem.mem_of_lookup h)
   simp only[hk,Bool.not_true,Bool.false_or]at this
   exact Option.isSome_iff_exists.mp this
  rcases h with h |h
  ·exact key _ h rfl
  ·exact key _ h rfl
 len:=len
 from_:=fun i j h=>by
  have hi:i < js.length:=(List.getElem?_eq_some_iff.mp h).1
  obtain⟨x,ex⟩:∃x,N[i]? =some x:=⟨N[i]'(by omega),wc (by omega)⟩
  have hz:(js.zip N)[i]? =some (some j,x):=by rw[List.getElem?_zip_eq_some];exact⟨h,ex⟩
  have:=List.all_eq_true.mp fr _ (List.mem_of_getElem? hz)
  simp only[uf,Bool.or_eq_true,beq_iff_eq]at this
  exact⟨x,ex,this.1.1,this.1.2,this.2⟩
structure Bn (mg:Str→Option Value):Prop where
 len:mg "len"=none
 range:mg "range"=none
 abs:mg "abs"=none
 min:mg "min"=none
 max:mg "max"=none
 reversed:mg "reversed"=none
 enumerate:mg "enumerate"=none
 isinstance:mg "isinstance"=none
 list:mg "list"=none
 tuple:mg "tuple"=none
 str:mg "str"=none
 int:mg "int"=none
 bool:mg "bool"=none
 sorted:mg "sorted"=none
 zip:mg "zip"=none
 sum:mg "sum"=none
 any:mg "any"=none
 all:mg "all"=none
 set:mg "set"=none
 dict:mg "dict"=none
theorem EH{K:Frag}{h:Heap}{mg:Str→Option Value}(X:K.In h)(G:h.Ns mainGlobals mg)
  (z1:nsIn K mainGlobals "len"=some none) (z2:nsIn K mainGlobals "range"=some none) (z3:nsIn K mainGlobals "abs"=some none) (z4:nsIn K mainGlobals "min"=some none) (z5:nsIn K mainGlobals "max"=some none) (z6:nsIn K mainGlobals "reversed"=some none) (z7:nsIn K mainGlobals "enumerate"=some none) (z8:nsIn K mainGlobals "isinstance"=some none) (z9:nsIn K mainGlobals "list"=some none) (z10:nsIn K mainGlobals "tuple"=some none) (z11:nsIn K mainGlobals "str"=some none) (z12:nsIn K mainGlobals "int"=some none) (z13:nsIn K mainGlobals "bool"=some none) (z14:nsIn K mainGlobals "sorted"=some none) (z15:nsIn K mainGlobals "zip"=some none) (z16:nsIn K mainGlobals "sum"=some none) (z17:nsIn K mainGlobals "any"=some none) (z18:nsIn K mainGlobals "all"=some none) (z19:nsIn K mainGlobals "set"=some none) (z20:nsIn K mainGlobals "dict"=some none):Bn mg:=
 ⟨mg_none_of X G z1,mg_none_of X G z2,mg_none_of X G z3,mg_none_of X G z4,mg_none_of X G z5,mg_none_of X G z6,mg_none_of X G z7,mg_none_of X G z8,mg_none_of X G z9,mg_none_of X G z10,mg_none_of X G z11,mg_none_of X G z12,mg_none_of X G z13,mg_none_of X G z14,mg_none_of X G z15,mg_none_of X G z16,mg_none_of X G z17,mg_none_of X G z18,mg_none_of X G z19,mg_none_of X G z20⟩
end PL
namespace PL
open PySem PySem.Spec L2 Nh PyProof.Rows
def Gn(i:Int):Prop:= -1000000≤i∧i≤1000000
instance (i:Int):Decidable (Gn i):=inferInstanceAs (Decidable (_∧_))
theorem fits{i:Int}(h: -10000000≤i∧i≤10000000):Builtin.Range.rangeFitsLong i=true:=by
 unfold Builtin.Range.rangeFitsLong
 simp only[uf,decide_eq_true_eq]
 omega
end PL
namespace PL
open PySem L2 Nh
section
variable {K:Frag} {B F:Hp} {A:List Addr} {σ:lC} {H H':Hp} {E:List Sl}
theorem DlOk.len:∀{us:List (e8×V)} {kvs:List (e8×List PyData)} {A:List Addr},DlOk K F H us kvs A→us.length=kvs.length
 |[],[],A,h=>rfl
 |p::us,q::kvs,A,h=>by
  obtain⟨l,vs,A',rfl,rfl,hl,hr,k⟩:=h
  simp[k.len]
 |[],_::_,_,h=>False.elim h
 |_::_,[],_,h=>False.elim h
end
end PL
namespace PL
open PySem L2 Nh
def hM:List PyData→Option (List Bool)
 |[]=>some []
 |.bool b::ds=>(hM ds).map (b:: ·)
 |_=>none
def qK:List PyData→Option PyData
 |[.list ds]=>(hM ds).map fun bs=>.bool (bs.any id)
 |_=>none
def sH:List PyData→Option PyData
 |[.list ds]=>(hM ds).map fun bs=>.bool (bs.all id)
 |_=>none
def j6(K:Frag)(f:List Bool→Bool):List V→Hp→VK→Prop:=fun xs H Q=>∃p bs,xs=[.ref p]∧SqL K H p (bs.map V.bl)∧Q (.bl (f bs)) H
theorem sI{K:Frag}{H:Hp}:∀{vs:List V} {ds:List PyData} {bs:List Bool},RpA K H vs ds→hM ds=some bs→vs=bs.map V.bl
 |_,_,bs,.nil,e=>by cases e;rfl
 |_,_,bs,.cons (d:=d) h t,e=>by
  cases d <;> simp[hM]at e
  obtain⟨cs,e,rfl⟩:=e
  cases h
  rw[sI t e]
  rfl
theorem nO{K:Frag}{f:List Bool→Bool}:AH K (j6 K f) (fun ds=>match ds with
 |[.list ds]=>(hM ds).map fun bs=>.bool (f bs)
 |_=>none):=fun ds d vs H Q e r=>by
 simp only at e
 split at e
 ·obtain⟨bs,eb,rfl⟩:=Zae.mp e
  obtain⟨v,rfl,r1⟩:=r.one
  cases r1 with
  |lst h1 h2=>
   have:=sI h2 eb
   subst this
   exact⟨_,rfl,fun q=>⟨_,bs,rfl,h1,q⟩⟩
 ·cases e
theorem pv:∀bs:List Bool,(List.range bs.length).any (fun i=>bs.getD i false)=bs.any id
 |[]=>rfl
 |b::bs=>by
  rw[List.length_cons,List.range_succ_eq_map,List.any_cons,List.any_map,List.any_cons,←pv bs]
  rfl
theorem pA:∀bs:List Bool,(List.range bs.length).all (fun i=>bs.getD i false)=bs.all id
 |[]=>rfl
 |b::bs=>by
  rw[List.length_cons,List.range_succ_eq_map,List.all_cons,List.all_map,List.all_cons,←pA bs]
  rfl
section
variable {X:Cx} {e:Expr} {es:List Expr} {m1:Bool} {g:qw} {p pos:Pos}
theorem j7:∀{bs:List Bool} {us:List Value},Vals (bs.map V.bl) us→us=bs.map Value.bool
 |[],_,.nil=>rfl
 |b::bs,_,.cons h t=>by cases h;rw[j7 t];rfl
theorem vJ{bs:List Bool}{i:Nat}{v:Value}(h:(bs.map Value.bool).toArray[i]? =some v):v=.bool (bs.getD i false):=by
 rw[List.getElem?_toArray,we]at h
 obtain⟨b,e,rfl⟩:=Zae.mp h
 rw[List.getD_eq_getElem?_getD,e]
 rfl
theorem pB(hc:X.calm=true):CallR X (.builtin "any") (j6 X.K fun bs=>bs.any id):=by
 intro pins s σ H xs us Q I r h
 obtain⟨a,bs,rfl,hq,q⟩:=h
 cases r with
 |cons r rr=>
  cases rr
  cases r
  obtain⟨its,rv,pl,hz⟩:=I.list hq
  have:=j7 rv
  subst this
  obtain⟨o,n,eo,_⟩:=id pl
  have hlt:a < s.heap.objs.size:=gn eo
  refine call_any_walk (wpAny_pyIter_list pl.isList ?_)
  refine⟨s.heap.objs.size,_,_,_,_,_,fun i=>bs.getD i false,rfl,Walks.list (A:=X.A.in1) (I.ok.hd hc) s.heap.objs.size a (gK hlt) (bs.map Value.bool).toArray,?_,?_,?_⟩
  ·exact⟨⟨_,jU _ rfl,rfl,rfl⟩,pl.isList.at fun o e=>gz _ e⟩
  ·intro i v s Q E hv hQ
   rw[vJ hv]
   exact wpAny_truthy_bool hQ
  ·intro h' tk hk
   refine⟨.bl _,H,I.kept (t':=tk) fun b o e=>hk b o (fun z=>?_) (gz _ e),rfl,?_⟩
   ·have:b=s.heap.objs.size:=by simpa using z
    exact Nat.lt_irrefl _ (this▸gn e)
   ·rw[show((bs.map Value.bool).toArray).size=bs.length by simp,pv]
    exact q
theorem wO(hc:X.calm=true):CallR X (.builtin "all") (j6 X.K fun bs=>bs.all id):=by
 intro pins s σ H xs us Q I r h
 obtain⟨a,bs,rfl,hq,q⟩:=h
 cases r with
 |cons r rr=>
  cases rr
  cases r
  obtain⟨its,rv,pl,hz⟩:=I.list hq
  have:=j7 rv
  subst this
  obtain⟨o,n,eo,_⟩:=id pl
  have hlt:a < s.heap.objs.size:=gn eo
  refine call_all_walk (wpAny_pyIter_list pl.isList ?_)
  refine⟨s.heap.objs.size,_,_,_,_,_,fun i=>bs.getD i false,rfl,Walks.list (A:=X.A.in1) (I.ok.hd hc) s.heap.objs.size a (gK hlt) (bs.map Value.bool).toArray,?_,?_,?_⟩
  ·exact⟨⟨_,jU _ rfl,rfl,rfl⟩,pl.isList.at fun o e=>gz _ e⟩
  ·intro i v s Q E hv hQ
   rw[vJ hv]
   exact wpAny_truthy_bool hQ
  ·intro h' tk hk
   refine⟨.bl _,H,I.kept (t':=tk) fun b o e=>hk b o (fun z=>?_) (gz _ e),rfl,?_⟩
   ·have:b=s.heap.objs.size:=by simpa using z
    exact Nat.lt_irrefl _ (this▸gn e)
   ·rw[show((bs.map Value.bool).toArray).size=bs.length by simp,pA]
    exact q
theorem De (hc:X.calm=true) (hg:Gl X "any") (hm:X.mg "any"=none) (ha:AX X [e] m1 g) (he:starEach [e] X.env=[(false,eval e X.env)]:=by rfl):EX X (.Call (.Name "any" p) [e] [] pos) m1 (bO qK g):=nH (r:=j6 X.K fun bs=>bs.any id) nO (pB hc) hg hm PyProof.Rows.boot_any ha (by decide) (by decide) he rfl
theorem yC (hc:X.calm=true) (hg:Gl X "all") (hm:X.mg "all"=none) (ha:AX X [e] m1 g) (he:starEach [e] X.env=[(false,eval e X.env)]:=by rfl):EX X (.Call (.Name "all" p) [e] [] pos) m1 (bO sH g):=nH (r:=j6 X.K fun bs=>bs.all id) nO (wO hc) hg hm PyProof.Rows.boot_all ha (by decide) (by decide) he rfl
theorem jy:∀{ns:List Int} {us:List Value},Vals (ns.map V.int) us→us.length=ns.length∧∀(i:Nat) (v:Value),us[i]? =some v→∃t,v=Value.int (ns.getD i 0) t
 |[],_,.nil=>⟨rfl,fun i v h=>by simp at h⟩
 |n::ns,_,.cons h t=>by
  obtain⟨tk,rfl⟩:=h
  obtain⟨h1,h2⟩:=jy t
  refine⟨by simp[h1],fun i v h=>?_⟩
  cases i with
  |zero=>simp at h;subst h;exact⟨tk,rfl⟩
  |succ i=>simpa using h2 i v (by simpa using h)
end
end PL
namespace PL
open PySem L2 Nh
theorem SAll.memA{P:Option V→Sl→List Addr→Prop}{os:List (Option V)}{ss:List Sl}{A:List Addr}{k:Nat}{s:Sl}(h:SAll P os ss A)(e:ss[k]? =some s):∃o A1,os[k]? =some o∧P o s A1∧∀a∈A1,a∈A:=by
 obtain⟨o,A0,A1,A2,eA,eo,hp,_⟩:=h.at e
 exact⟨o,A1,eo,hp,fun a ha=>by rw[eA];exact lD _ (List.mem_append_left _ ha)⟩
theorem SAll.two{P:Option V→Sl→List Addr→Prop}:∀{os:List (Option V)} {ss:List Sl} {A:List Addr} {i j:Nat} {s t:Sl},SAll P os ss A→ss[i]? =some s→ss[j]? =some t→i≠j→A.Nodup→
  ∃o1 A1 o2 A2,os[i]? =some o1∧P o1 s A1∧os[j]? =some o2∧P o2 t A2∧(∀a∈A1,a∈A)∧(∀a∈A2,a∈A)∧∀a∈A1,a∉A2
 |_,_,_,_,_,_,_,.nil,e,_,_,_=>by simp at e
 |_,_,_,0,0,_,_,.cons h r,_,_,n,_=>absurd rfl n
 |_,_,_,0,j+1,s,t,.cons (o:=o) (A:=A) (B:=B) h r,e1,e2,_,nd=>by
  simp at e1
  subst e1
  obtain⟨o2,A2,eo,hp,sub⟩:=r.memA (k:=j) (by simpa using e2)
  exact⟨o,A,o2,A2,rfl,h,by simpa using eo,hp,fun a ha=>List.mem_append_left _ ha,fun a ha=>lD _ (sub a ha),fun a ha hb=>(Zbh.mp nd).2.2 a ha a (sub a hb) rfl⟩
 |_,_,_,i+1,0,s,t,.cons (o:=o) (A:=A) (B:=B) h r,e1,e2,_,nd=>by
  simp at e2
  subst e2
  obtain⟨o2,A2,eo,hp,sub⟩:=r.memA (k:=i) (by simpa using e1)
  exact⟨o2,A2,o,A,by simpa using eo,hp,rfl,h,fun a ha=>lD _ (sub a ha),fun a ha=>List.mem_append_left _ ha,fun a ha hb=>(Zbh.mp nd).2.2 a hb a (sub a ha) rfl⟩
 |_,_,_,i+1,j+1,s,t,.cons (o:=o) (A:=A) (B:=B) h r,e1,e2,n,nd=>by
  obtain⟨o1,A1,o2,A2,q1,q2,q3,q4,q5,q6,q7⟩:=r.two (i:=i) (j:=j) (by simpa using e1) (by simpa using e2) (fun z=>n (by rw[z])) (Zbh.mp nd).2.1
  exact⟨o1,A1,o2,A2,by simpa using q1,q2,by simpa using q3,q4,fun a ha=>lD _ (q5 a ha),fun a ha=>lD _ (q6 a ha),q7⟩
end PL
namespace NhMaxD
open PySem PyProof.Rows
theorem yD(a d:Value):argsOk "max" ⟨[a],[("default",d)]⟩:=by unfold argsOk;kernel_rfl
section
variable {prog:Program} {w:World} {A:Around} {E:Value→Shared→Prop} {R:Result→Shared→Prop} {I:Addr} {fp wr:List Addr} {St:Nat→Heap→Prop}
abbrev EI(h:Heap)(S:Addr)(vs:Array Value):Prop:=∃c,h.get? S=some {cls:=.type "list",dict:=none,data:=.seq vs c,slots:=#[]}
theorem qc{ns:List Int}(W:Walks prog w A.in1 I fp wr ns.length (fun i v=>∃t,v=.int (ns.getD i 0) t) St)(S:Addr)(hSf:S∉fp)(d:Value):
  ∀(k j:Nat) (s:Shared) (m:Int) (t:Tok),ns.length - j=k→j≤ns.length→St j s.heap→EI s.heap S #[.int m t,.int m t]→
   (∀t' h' tk,(∀b o,b∉S::wr→s.heap.get? b=some o→h'.get? b=some o)→R (.ok (.ret (.int ((ns.drop j).foldl max m) t'))) {s with heap:=h',toks:=tk})→
   codeAny (model prog w) A (.builtin "max.loop" ⟨[.ref I,.none,.ref S],[("default",d)]⟩) R s:=by
 have hSw:S∉wr:=fun h=>hSf (W.sub _ h)
 have hnm:(toString "max"++toString ".loop":String)="max.loop":=by decide
 intro k
 induction k with
 |zero=>
  rintro j s m t hk hj st ⟨c,hS⟩ hR
  have hjn:j=ns.length:=by omega
  refine codeAny_builtin PySem.F.entry_max_loop ?_
  rw[Around.under_plainId PySem.F.plain_max_loop _]
  refine wpAny_bind (m:=seqItems? (.ref S)) (wpAny_seqItems hS rfl ?_)
  refine wpAny_bind (m:=tryCatch (pyNext (.ref I)) _) (wpAny_tryCatch (W.done s _ _ (by rw[←hjn];exact st) fun h' tk kp=>?_))
  refine wpAny_bind (m:=updateSeq S (fun _=>#[])) (wpAny_updateSeq (kp S _ hSw hS) rfl (wpAny_bind (wpAny_letGo (wpAny_pure ?_))))
  have e:(ns.drop j).foldl max m=m:=by rw[hjn,List.drop_length];rfl
  rw[e]at hR
  exact hR t _ tk fun b o hb q=>(Heap.get?_update_other _ _ (fun z:S=b=>hb (by rw[←z];exact ir ..))).trans (kp b o (fun z=>hb (g6 _ z)) q)
 |succ k ih=>
  rintro j s m t hk hj st ⟨c,hS⟩ hR
  have hlt:j < ns.length:=by omega
  refine codeAny_builtin PySem.F.entry_max_loop ?_
  rw[Around.under_plainId PySem.F.plain_max_loop _]
  refine wpAny_bind (m:=seqItems? (.ref S)) (wpAny_seqItems hS rfl ?_)
  refine wpAny_bind (m:=tryCatch (pyNext (.ref I)) _) (wpAny_tryCatch (W.item j s _ _ hlt st fun v h' tk hv st' kp=>?_))
  obtain⟨u,rfl⟩:=hv
  have hS':=kp S _ hSw hS
  have eg:ns.getD j 0=ns[j]:=by simp[hlt]
  rw[eg]
  have ed:(ns.drop j).foldl max m=(ns.drop (j+1)).foldl max (max m ns[j]):=by rw[List.drop_eq_getElem_cons hlt,List.foldl_cons]
  rw[ed]at hR
  have cmp:=CmpOf.ints_gt (prog:=prog) (w:=w) (A:=A.in1) (P:=fun i v=>∃t,v=.int (if i=0 then ns[j]else m) t) (fun i=>if i=0 then ns[j]else m) (fun _ _ z=>z)
  refine wpAny_bind (m:=tryCatch (holding [.int ns[j] u,.int ns[j] u] (richCompare .Gt (.int ns[j] u) (.int m t) >>= _)) _) (wpAny_tryCatch (wpAny_holding (wpAny_bind (cmp 0 1 _ _ _ _ _ ⟨u,rfl⟩ ⟨t,rfl⟩ ?_))))
  refine wpAny_bind (wpAny_holding (wpAny_truthy_bool ?_))
  refine wpAny_bind (wpAny_letGo (wpAny_pure ?_))
  simp only[Nat.one_ne_zero,bB]
  by_cases hb:ns[j] > m
  ·simp only[hb,bB]
   refine wpAny_bind (wpAny_updateSeq hS' rfl (wpAny_bind (wpAny_letGo ?_)))
   rw[hnm]
   rw[show max m ns[j]=ns[j] by omega]at hR
   refine wpAny_pure ⟨plainId_quiet PySem.F.plain_max_loop _,ih (j+1) _ ns[j] u (by omega) hlt (W.frame _ _ _ st' fun b hbf o e=>?_) ⟨_,Heap.get?_update_self _ hS' rfl⟩ fun t' h2 tk2 k2=>?_⟩
   ·exact(Heap.get?_update_other _ _ (fun z:S=b=>hSf (by rw[z];exact hbf))).trans e
   ·exact hR t' h2 tk2 fun b o hbb e=>k2 b o hbb ((Heap.get?_update_other _ _ (fun z:S=b=>hbb (by rw[←z];exact ir ..))).trans (kp b o (fun z=>hbb (g6 _ z)) e))
  ·simp only[hb,bB]
   refine wpAny_bind (wpAny_letGo ?_)
   rw[hnm]
   rw[show max m ns[j]=m by omega]at hR
   refine wpAny_pure ⟨plainId_quiet PySem.F.plain_max_loop _,ih (j+1) _ m t (by omega) hlt st' ⟨_,hS'⟩ fun t' h2 tk2 k2=>?_⟩
   exact hR t' h2 tk2 fun b o hbb e=>k2 b o hbb (kp b o (fun z=>hbb (g6 _ z)) e)
def FN:List Int→Int→Int
 |[],d=>d
 |n::r,_=>r.foldl max n
theorem call{s:Shared}{l:Addr}{items:Array Value}{ns:List Int}{d:Int}{td:Tok}{Q:Value→Shared→Prop}(hh:A.handled=none)(hl:s.heap.IsList l items)(hi:IntsAre items.toList ns)
  (h:∀t h' tk,(∀b o,s.heap.get? b=some o→h'.get? b=some o)→Q (.int (FN ns d) t) {s with heap:=h',toks:=tk}):
  wpAny (model prog w) A (PySem.call (.builtin "max") [.ref l] [("default",.int d td)]) Q E s:=by
 have hnm:(toString "max"++toString ".loop":String)="max.loop":=by decide
 refine wpAny_call (codeAny_call_builtin PySem.F.plain_max PySem.F.entry_max ?_)
 simp only[checkBuiltinCall,PySem.F.kind_max]
 have key:wpAny (model prog w) A.in1 (Builtin.«max» ⟨[.ref l],[("default",.int d td)]⟩) (fun fin s'=>match fin with
   |.done f=>(match (Except.ok f:Result)with |.ok (.ret v)=>Q v s' |.ok _=>False |.error e=>E e s')
   |.again c'=>c'.quiet=true∧codeAny (model prog w) A c' (fun r s'=>match r with |.ok (.ret v)=>Q v s' |.ok _=>False |.error e=>E e s') s') E s:=by
  refine wpAny_bind (m:=Builtin.Builtins.bindParams "max" ["key","default"] 0 ⟨[],[("default",.int d td)]⟩) (wpAny_of_eq (a:=[none,some (.int d td)]) rfl ?_)
  refine wpAny_bind (wpAny_pure ?_)
  refine wpAny_bind (wpAny_pyIter_list hl ?_)
  refine wpAny_bind (wpAny_newObj_type ?_)
  rw[hnm]
  have hlen:items.size=ns.length:=by have:=hi.length;simpa using this
  have hlt:l < s.heap.objs.size:=let ⟨_,ho,_⟩:=hl;gn ho
  have hI:(s.heap.push {cls:=.type "list_iterator",data:=.fields #[.ref l,.int 0 0]}).objs.size=s.heap.objs.size+1:=by rw[Heap.size_push]
  have W0:=Walks.list (prog:=prog) (w:=w) (A:=A.in1) (by simpa using hh) s.heap.objs.size l (gK hlt) items
  have W:Walks prog w A.in1 s.heap.objs.size [s.heap.objs.size,l] [s.heap.objs.size] ns.length (fun i v=>∃t,v=.int (ns.getD i 0) t) (fun i h=>h.IsListIter s.heap.objs.size l i∧h.IsList l items):=by
   rw[←hlen]
   exact⟨W0.sub,W0.frame,fun i s Q E hi' st hQ=>W0.item i s Q E hi' st fun v h' tk hv st' kp=>hQ v h' tk (IntsAre.int_at hi i v (by rw[Array.getElem?_toList];exact hv)) st' kp,W0.done,W0.self⟩
  have hSf:(s.heap.push {cls:=.type "list_iterator",data:=.fields #[.ref l,.int 0 0]}).objs.size∉[s.heap.objs.size,l]:=by
   rw[hI]
   intro z
   rcases Zaq.mp z with z |z
   ·exact absurd z (Nat.ne_of_gt (Nat.lt_succ_self _))
   ·exact absurd (Zaf.mp z) (Nat.ne_of_gt (rO hlt))
  have st0:∀o,(fun i (h:Heap)=>h.IsListIter s.heap.objs.size l i∧h.IsList l items) 0 ((s.heap.push {cls:=.type "list_iterator",data:=.fields #[.ref l,.int 0 0]}).push o):=fun o=>
   ⟨⟨_,gz _ (jU _ rfl),rfl,rfl⟩,(hl.push _).push _⟩
  have old:∀b o q,s.heap.get? b=some o→((s.heap.push {cls:=.type "list_iterator",data:=.fields #[.ref l,.int 0 0]}).push q).get? b=some o∧b∉[(s.heap.push {cls:=.type "list_iterator",data:=.fields #[.ref l,.int 0 0]}).objs.size,s.heap.objs.size]:=fun b o q e=>by
   have hb:=gn e
   refine⟨gz _ (gz _ e),fun z=>?_⟩
   rw[hI]at z
   rcases Zaq.mp z with z |z
   ·exact absurd z (gK (rO hb))
   ·exact absurd (Zaf.mp z) (gK hb)
  refine wpAny_pure ⟨plainId_quiet PySem.F.plain_max_loop _,codeAny_builtin PySem.F.entry_max_loop ?_⟩
  rw[Around.under_plainId PySem.F.plain_max_loop _]
  refine wpAny_bind (m:=seqItems? (.ref _)) (wpAny_seqItems (jU _ rfl) rfl ?_)
  cases ns with
  |nil=>
   refine wpAny_bind (m:=tryCatch (pyNext (.ref s.heap.objs.size)) _) (wpAny_tryCatch (W.done _ _ _ (st0 _) fun h' tk kp=>?_))
   refine wpAny_bind (wpAny_rule (wpAny_pure ?_))
   exact h td h' tk fun b o e=>kp b o (fun z=>(old b o {cls:=.none} e).2 (g6 _ z)) (old b o _ e).1
  |cons n r=>
   refine wpAny_bind (m:=tryCatch (pyNext (.ref s.heap.objs.size)) _) (wpAny_tryCatch (W.item 0 _ _ _ (by simp) (st0 _) fun v h' tk hv st' kp=>?_))
   obtain⟨u,rfl⟩:=hv
   have hS':=kp _ _ (fun z=>hSf (W.sub _ z)) (jU _ rfl)
   refine wpAny_bind (m:=updateSeq _ (fun _=>#[.int n u,.int n u])) (wpAny_updateSeq hS' rfl ?_)
   rw[hnm]
   refine wpAny_pure ⟨plainId_quiet PySem.F.plain_max_loop _,qc W _ hSf _ _ 1 _ n u rfl (by simp) (W.frame _ _ _ st' fun b hbf o e=>?_) ⟨_,Heap.get?_update_self _ hS' rfl⟩ fun t' h2 tk2 k2=>?_⟩
   ·exact(Heap.get?_update_other _ _ (fun z=>hSf (by rw[z];exact hbf))).trans e
   ·refine h t' h2 tk2 fun b o e=>k2 b o (old b o {cls:=.none} e).2 ((Heap.get?_update_other _ _ (fun z=>(old b o {cls:=.none} e).2 (by rw[←z];exact ir ..))).trans (kp b o (fun z=>(old b o {cls:=.none} e).2 (g6 _ z)) (old b o _ e).1))
 cases hsig:Manifest.signature? "max" with
 |none=>exact wpAny_pure key
 |some sig=>
  have ha:=yD (.ref l) (.int d td)
  simp only[argsOk,hsig]at ha
  show wpAny _ A.in1 (Bind.checkArgs "max" sig ⟨[.ref l],[("default",.int d td)]⟩) _ _ s
  rw[show Bind.checkArgs "max" sig ⟨[.ref l],[("default",.int d td)]⟩=pure ()from ha]
  exact wpAny_pure key
end
end NhMaxD
namespace PL
open PySem L2 Nh
def rL(a b:Str):Bool:=decide (a.cps.toList≤b.cps.toList)
def mE(ss:List Str):List Str:=ss.mergeSort rL
theorem lS(a b c:Str)(h:rL a b=true)(k:rL b c=true):rL a c=true:=decide_eq_true (List.le_trans (of_decide_eq_true h) (of_decide_eq_true k))
theorem pD(a b:Str):(rL a b||rL b a)=true:=by
 rcases List.le_total a.cps.toList b.cps.toList with h |h
 ·simp[rL,h]
 ·simp[rL,h]
theorem sJ{a b:Str}(h:rL a b=true)(k:rL b a=true):a=b:=by
 have e:=List.le_antisymm (of_decide_eq_true h) (of_decide_eq_true k)
 cases a;cases b
 simp only at e
 rw[Array.toList_inj.mp e]
theorem pE:∀(p:Str) (l:List Str),PyProof.Rows.risingS p l=true→(p::l).Pairwise (fun a b=>rL a b=true)
 |p,[],_=>by simp
 |p,x::r,h=>by
  have h':(!PySem.Spec.ltCps x.cps.toList p.cps.toList&&PyProof.Rows.risingS x r)=true:=h
  rw[uf,PyProof.Rows.ltCps_eq]at h'
  have ih:=pE x r h'.2
  have hpx:rL p x=true:=by
   have:=h'.1
   simp only[Bool.not_eq_true',decide_eq_false_iff_not]at this
   exact decide_eq_true this
  refine List.pairwise_cons.mpr ⟨fun y hy=>?_,ih⟩
  rcases Zaq.mp hy with rfl |hy
  ·exact hpx
  ·exact lS p x y hpx ((List.pairwise_cons.mp ih).1 y hy)
theorem wP:∀l:List Str,PyProof.Rows.sortedS l=true→l.Pairwise (fun a b=>rL a b=true)
 |[],_=>List.Pairwise.nil
 |x::r,h=>pE x r h
theorem uM{a b:List Str}(p:a.Perm b)(h:PyProof.Rows.sortedS a=true):a=mE b:=
 List.Perm.eq_of_pairwise (fun _ _ _ _ h k=>sJ h k) (wP a h) (List.pairwise_mergeSort lS pD b) (p.trans (List.mergeSort_perm b rL).symm)
theorem pF(ss:List Str):(mE ss).length=ss.length:=(List.mergeSort_perm ss rL).length_eq
section
variable {X:Cx} {e:Expr} {m1:Bool} {f:bL} {p pos:Pos}
theorem sK:∀{ss:List Str} {us:List Value},Vals (ss.map V.str) us→PyProof.Rows.StrsAre us ss
 |[],_,.nil=>.nil
 |s::ss,_,.cons h t=>by obtain⟨tk,rfl⟩:=h;exact .cons _ _ (sK t)
theorem sL:∀{ss:List Str} {us:List Value},PyProof.Rows.StrsAre us ss→Vals (ss.map V.str) us
 |[],_,.nil=>.nil
 |_::_,_,.cons y t h=>.cons ⟨t,rfl⟩ (sL h)
def kO:List PyData→Option (List Str)
 |[]=>some []
 |.str x::ds=>(kO ds).map (x:: ·)
 |_=>none
theorem qL{K:Frag}{H:Hp}:∀{vs:List V} {ds:List PyData} {bs:List Str},RpA K H vs ds→kO ds=some bs→vs=bs.map V.str
 |_,_,bs,.nil,e=>by cases e;rfl
 |_,_,bs,.cons (d:=d) h t,e=>by
  cases d <;> simp[kO]at e
  obtain⟨cs,e,rfl⟩:=e
  cases h
  rw[qL t e]
  rfl
theorem kP{K:Frag}{H:Hp}:∀ss:List Str,RpA K H (ss.map V.str) (ss.map PyData.str)
 |[]=>.nil
 |s::ss=>.cons (.str s) (kP ss)
end
end PL
namespace PL
open PySem L2 Nh
def zU(ks:List Str)(x:Str):List Str:=if x∈ks then ks else ks++[x]
def i7(ss:List Str):List Str:=ss.foldl zU []
def kQ(x:Str):List Str:=x.cps.toList.map fun c=>⟨#[c]⟩
def de(g:bL):bL:=fun E=>(g E).bind fun a=>match look a.2 a.1 with
 |some (.list ds)=>(kO ds).bind fun ss=>if ss.length < 4000∧(i7 ss).length < 64 then some (.ow ((mE (i7 ss)).map .str),a.2)else none
 |some (.str x)=>if (kQ x).length < 4000∧(i7 (kQ x)).length < 64 then some (.ow ((mE (i7 (kQ x))).map .str),a.2)else none
 |_=>none
end PL
namespace NhSet
open PySem PyProof.Rows
structure SS (w:World) (b:Bool) (ks:List Str) (es:Array (Int×Value)) (t:SetTable):Prop where
 perm:(es.toList.map (fun e=>strOf e.2)).Perm ks
 elems:∀e∈es.toList,∃x tk,e=(hashStr w x,Value.str x tk)
 bound:es.size < scanBound
 fits:t.fits es.size=true
 led:t.led=b
 plain:es.size≠0→t.plain=false
abbrev dm(es:Array (Int×Value))(ep:Nat)(t:SetTable):Obj:={cls:=.type "set",dict:=none,data:=.set es ep t}
def StrSet(w:World)(h:Heap)(a:Addr)(b:Bool)(ks:List Str):Prop:=∃es ep t,h.get? a=some (dm es ep t)∧SS w b ks es t
theorem StrSet.at'{w:World}{h h':Heap}{a:Addr}{b:Bool}{ks:List Str}(S:StrSet w h a b ks)(e:∀o,h.get? a=some o→h'.get? a=some o):StrSet w h' a b ks:=
 let ⟨es,ep,t,ho,r⟩:=S;⟨es,ep,t,e _ ho,r⟩
theorem StrSet.obj{w:World}{h:Heap}{a:Addr}{b:Bool}{ks:List Str}(S:StrSet w h a b ks):∃o,h.get? a=some o:=let ⟨_,_,_,ho,_⟩:=S;⟨_,ho⟩
theorem SS.elemsOf{prog:Program}{w:World}{b:Bool}{ks:List Str}{es:Array (Int×Value)}{t:SetTable}(S:SS w b ks es t):ElemsOf (strKind prog w) es.toList:=fun e he=>by
 obtain⟨x,tk,rfl⟩:=S.elems e he
 exact⟨⟨x,by simp[PySem.strKind,Value.isStrOf],rfl⟩,rfl⟩
theorem SS.len{w:World}{b:Bool}{ks:List Str}{es:Array (Int×Value)}{t:SetTable}(S:SS w b ks es t):es.size=ks.length:=by
 have:=S.perm.length_eq;simpa using this
theorem SS.mem{w:World}{b:Bool}{ks:List Str}{es:Array (Int×Value)}{t:SetTable}(S:SS w b ks es t)(x:Str):x∈ks↔∃e∈es.toList,Value.isStrOf x e.2=true:=by
 rw[←S.perm.mem_iff,Zba]
 constructor
 ·rintro⟨e,he,rfl⟩
  obtain⟨y,tk,rfl⟩:=S.elems e he
  exact⟨_,he,by simp[Value.isStrOf,strOf]⟩
 ·rintro⟨e,he,hx⟩
  obtain⟨y,tk,rfl⟩:=S.elems e he
  have:y=x:=by simpa[Value.isStrOf]using hx
  exact⟨_,he,by simp[strOf,this]⟩
theorem SetTable.orStandIn_led(t:SetTable)(n:Nat):(t.orStandIn n).led=t.led:=by
 unfold SetTable.orStandIn;split <;> rfl
theorem uN(t:SetTable)(es:Array (Int×Value))(h:Int)(x:Value):(layNew t es h x).2.1.led=t.led:=by
 unfold layNew
 split
 ·exact SetTable.orStandIn_led _ _
 ·rfl
theorem uO{mask finger moves:Nat}{led plain:Bool}{hashes:Array Int}{t':SetTable}{order:Array Nat}(h:SetTable.laid mask finger moves led plain hashes=some (t',order)):t'.led=led∧t'.plain=plain:=by
 unfold SetTable.laid at h
 cases hc:SetTable.layClean mask hashes with
 |none=>rw[hc]at h;simp at h
 |some ow=>rw[hc]at h;simp at h;rw[←h.1];exact⟨rfl,rfl⟩
theorem nP(t:SetTable)(es:Array (Int×Value))(wanted:Nat)(hp:t.plain=false):(relayAll t es wanted).2.1.led=t.led∧(relayAll t es wanted).2.1.plain=false:=by
 unfold relayAll
 split
 ·rename_i t' order hr
  dsimp only
  split
  ·have:=uO hr
   exact⟨this.1,this.2.trans hp⟩
  ·exact⟨rfl,rfl⟩
 ·exact⟨rfl,rfl⟩
section
variable {prog:Program} {w:World} {A:Around} {E:Value→Shared→Prop} {s:Shared}
theorem oC(es es':Array (Int×Value))(ep:Nat)(t t':SetTable):Obj.putSet es' t' (dm es ep t)=dm es' (ep+1) t':=rfl
theorem sM{h:Heap}{a:Addr}{es es':Array (Int×Value)}{ep:Nat}{t t':SetTable}(ho:h.get? a=some (dm es ep t)):(h.update a (Obj.putSet es' t')).get? a=some (dm es' (ep+1) t'):=
 Heap.get?_update_self (Obj.putSet es' t') ho (by rw[oC];rfl)
theorem vK{g:Bool→Sem Unit}(hg:∀(b:Bool) (s₁:Shared) (Q':Unit→Shared→Prop),Q' () s₁→wpAny (model prog w) A (g b) Q' E s₁)
  {a:Addr} {es:Array (Int×Value)} {ep:Nat} {t:SetTable} (ho:s.heap.get? a=some (dm es ep t))
  {es1:Array (Int×Value)} {t2:SetTable} {b:Bool} {ks:List Str} (S:SS w b ks es1 t2) (hp:t2.plain=false) {wasDummy:Bool} {R:Option Bool→Shared→Prop}
  (h:∀h',Heap.SameBut a s.heap h'→StrSet w h' a b ks→R (some true) {s with heap:=h'}):
  wpAny (model prog w) A (do
    storeSet a es1 t2
    if (!wasDummy&&t2.tooFull)=true then do
      g (relayAll t2 es1 (SetTable.grown es1.size)).2.2
      storeSet a (relayAll t2 es1 (SetTable.grown es1.size)).1 (relayAll t2 es1 (SetTable.grown es1.size)).2.1
      pure (some true)
     else pure (some true)) R E s:=by
 refine wpAny_bind (wpAny_storeSet_of ho rfl ?_ (fits_of_scanBound S.bound))
 have ho1:=sM (es':=es1) (t':=t2) ho
 have hsb1:=Heap.SameBut.update s.heap a (Obj.putSet es1 t2)
 split
 ·have hpm:=relayAll_perm t2 es1 (SetTable.grown es1.size)
  have hfr:=relayAll_fits t2 es1 (SetTable.grown es1.size)
  have hmk:=nP t2 es1 (SetTable.grown es1.size) hp
  generalize hRl:relayAll t2 es1 (SetTable.grown es1.size)=Rl at hpm hfr hmk ⊢
  obtain⟨es2,t3,gave2⟩:=Rl
  dsimp only at hpm hfr hmk ⊢
  have hsz:es2.size=es1.size:=by rw[←Zb,hpm.length_eq,Zb]
  have hb2:es2.size < scanBound:=by rw[hsz];exact S.bound
  have S2:SS w b ks es2 t3:=⟨(hpm.map _).trans S.perm,fun e he=>S.elems e (hpm.mem_iff.mp he),hb2,hfr,hmk.1.trans S.led,fun _=>hmk.2⟩
  refine wpAny_bind (hg _ _ _ ?_)
  refine wpAny_bind (wpAny_storeSet_of ho1 rfl ?_ (fits_of_scanBound hb2))
  exact wpAny_pure (h _ (hsb1.trans (Heap.SameBut.update _ a _)) ⟨es2,_,t3,sM ho1,S2⟩)
 ·exact wpAny_pure (h _ hsb1 ⟨es1,_,t2,ho1,S⟩)
def mQ(ks:List Str)(x:Str):List Str:=if x∈ks then ks else ks++[x]
theorem lT{a:Addr}{b:Bool}{ks:List Str}{x:Str}{tk:Tok}{Q:Bool→Shared→Prop}(hS:StrSet w s.heap a b ks)(hroom:ks.length+1 < scanBound)
  (h:∀(r:Bool) h',Heap.SameBut a s.heap h'→StrSet w h' a b (mQ ks x)→Q r {s with heap:=h'}):
  wpAny (model prog w) A (setAddHashed a (.str x tk) (hashStr w x)) Q E s:=by
 obtain⟨es,ep,t,ho,S⟩:=hS
 have hb1:es.size+1 < scanBound:=by rw[S.len];exact hroom
 have hel:=S.elemsOf (prog:=prog)
 have hkey:(strKind prog w).is x (.str x tk)=true:=by simp[PySem.strKind,Value.isStrOf]
 unfold setAddHashed setAddHashedIn
 refine wpAny_holding (wpAny_bind (wpAny_setState_of ho rfl S.fits ?_))
 dsimp only
 rw[byScan_of (knd:=strKind prog w) (x:=.str x tk) rfl S.bound hel]
 simp only[↓reduceIte]
 unfold setAddByScan
 refine wpAny_bind ?_
 refine wpAny_bind (wpAny_rule ?_)
 refine wpAny_bind (wpAny_setScan_of (knd:=strKind prog w) hkey ho rfl S.fits hel ?_)
 cases hr:List.findIdx? (fun e=>(strKind prog w).is x e.2) es.toList with
 |some j=>
  dsimp only
  obtain⟨hj,hpj,_⟩:=List.findIdx?_eq_some_iff_getElem.mp hr
  have hk:x∈ks:=(S.mem x).mpr ⟨es.toList[j],List.getElem_mem hj,hpj⟩
  refine wpAny_pure (wpAny_pure ?_)
  have e:s={s with heap:=s.heap}:=by cases s;rfl
  rw[e]
  exact h _ s.heap (Heap.SameBut.refl a s.heap) (by rw[mQ,if_pos hk];exact⟨es,ep,t,ho,S⟩)
 |none=>
  dsimp only
  have hk:x∉ks:=fun hk=>by
   obtain⟨e,he,hp⟩:=(S.mem x).mp hk
   have:=List.findIdx?_eq_none_iff.mp hr e he
   rw[show(strKind prog w).is x e.2=true from hp]at this;exact Bool.noConfusion this
  have hgw:∀(b:Bool) {s₁:Shared} {Q':Unit→Shared→Prop},Q' () s₁→wpAny (model prog w) A (match b with |true=>rule "set.scan.the-table-gave-way" |false=>pure ()) Q' E s₁:=
   fun b s₁ Q' hq=>by cases b <;> first |exact wpAny_pure hq |exact wpAny_rule hq
  have hperm:=layNew_perm t es (hashStr w x) (.str x tk)
  have hfits:=layNew_fits t es (hashStr w x) (.str x tk)
  have hled:=uN t es (hashStr w x) (.str x tk)
  generalize hL:layNew t es (hashStr w x) (.str x tk)=L at hperm hfits hled ⊢
  obtain⟨es1,t1,wasDummy,gave⟩:=L
  dsimp only at hperm hfits hled ⊢
  rw[Array.toList_push]at hperm
  have hb1':es1.size < scanBound:=by rw[←Zb,hperm.length_eq,vn,Zb];simpa using hb1
  have hpm:(es1.toList.map (fun e=>strOf e.2)).Perm (ks++[x]):=(hperm.map _).trans (by rw[oz];exact S.perm.append_right _)
  have hel1:∀e∈es1.toList,∃x tk,e=(hashStr w x,Value.str x tk):=fun e he=>by
   rcases Zan.mp (hperm.mem_iff.mp he)with z |z
   ·exact S.elems e z
   ·exact⟨x,tk,Zaf.mp z⟩
  refine wpAny_bind (hgw _ ?_)
  split
  ·refine wpAny_bind ?_
   rw[hashByValue_scannable 8 (x:=.str x tk) rfl]
   refine wpAny_pure ?_
   simp only[plainKind,Bool.false_eq_true,↓reduceIte]
   refine vK ?_ ho (t2:={t1 with plain:=false}) (ks:=mQ ks x) (b:=b) ⟨by rw[mQ,if_neg hk];exact hpm,hel1,hb1',SetTable.fits_plain_off hfits,hled.trans S.led,fun _=>rfl⟩ rfl ?_
   ·intro b s₁ Q' hq;cases b <;> first |exact wpAny_pure hq |exact wpAny_rule hq
   ·intro h' hsb hS';dsimp only;exact wpAny_pure (h _ h' hsb hS')
  ·rename_i hpl
   refine wpAny_bind (wpAny_pure ?_)
   simp only[↓reduceIte]
   have hpl':t1.plain=false:=by simpa using hpl
   refine vK ?_ ho (ks:=mQ ks x) (b:=b) ⟨by rw[mQ,if_neg hk];exact hpm,hel1,hb1',hfits,hled.trans S.led,fun _=>hpl'⟩ hpl' ?_
   ·intro b s₁ Q' hq;cases b <;> first |exact wpAny_pure hq |exact wpAny_rule hq
   ·intro h' hsb hS';dsimp only;exact wpAny_pure (h _ h' hsb hS')
end
def j8(val:Nat→Str)(i:Nat):List Str:=((List.range i).map val).foldl mQ []
theorem pG(val:Nat→Str)(i:Nat):j8 val (i+1)=mQ (j8 val i) (val i):=by
 unfold j8;rw[List.range_succ,oz,List.foldl_append];rfl
theorem yE(ks:List Str)(x:Str):(mQ ks x).length≤ks.length+1:=by
 unfold mQ;split
 ·omega
 ·simp
theorem sN(val:Nat→Str):∀i,(j8 val i).length≤i
 | 0=>fS _
 |i+1=>by rw[pG];have:=sN val i;have:=yE (j8 val i) (val i);omega
section
variable {prog:Program} {w:World} {A:Around} {R:Result→Shared→Prop} {I:Addr} {fp wr:List Addr} {G:Array GenState→Array GenState→Prop} {n:Nat} {P:Nat→Value→Prop} {St:Nat→Shared→Prop}
theorem mF(W:WalksS prog w A.in1 I fp wr G n P St)(S:Addr)(hSf:S∉fp)(b:Bool)
  (val:Nat→Str) (hval:∀i v,P i v→∃t,v=.str (val i) t) (hb:n+1 < scanBound):
  ∀(k i:Nat) (s:Shared),n - i=k→i≤n→St i s→StrSet w s.heap S b (j8 val i)→
   (∀s',Moved (S::wr) G s s'→StrSet w s'.heap S b (j8 val n)→R (.ok (.ret .none)) s')→
   codeAny (model prog w) A (.builtin "set.update.loop" ⟨[.ref S,.ref I],[]⟩) R s:=by
 have hSw:S∉wr:=fun h=>hSf (W.sub _ h)
 have hsub:∀b∈wr,b∈S::wr:=fun b hb=>g6 _ hb
 intro k
 induction k with
 |zero=>
  intro i s hk hi hst hS hR
  have hin:i=n:=by omega
  subst hin
  refine codeAny_builtin PyProof.Rows.F.entry_set_update_loop ?_
  rw[Around.under_plainId PyProof.Rows.F.plain_set_update_loop _]
  show wpAny _ A.in1 (pyNext (.ref I) >>= _) _ _ s
  refine wpAny_bind (W.done s _ _ hst fun s' hm=>?_)
  show wpAny _ A.in1 (ret Value.none) _ _ s'
  exact wpAny_pure (hR s' (hm.mono hsub) (hS.at' fun o e=>hm.heap S o hSw e))
 |succ k ih=>
  intro i s hk hi hst hS hR
  have hlt:i < n:=by omega
  refine codeAny_builtin PyProof.Rows.F.entry_set_update_loop ?_
  rw[Around.under_plainId PyProof.Rows.F.plain_set_update_loop _]
  show wpAny _ A.in1 (pyNext (.ref I) >>= _) _ _ s
  refine wpAny_bind (W.item i s _ _ hlt hst fun v s' hP hst' hm=>?_)
  obtain⟨t,rfl⟩:=hval i v hP
  have hS':StrSet w s'.heap S b (j8 val i):=hS.at' fun o e=>hm.heap S o hSw e
  show wpAny _ A.in1 (holding [Value.str (val i) t] (setAdd S (.str (val i) t)) >>= _) _ _ s'
  refine wpAny_bind (wpAny_holding ?_)
  unfold setAdd
  refine wpAny_holding ?_
  refine wpAny_bind (wpAny_pyHash_str ?_)
  have hroom:(j8 val i).length+1 < scanBound:=by have:=sN val i;omega
  refine lT (s:={s' with toks:=s'.toks+1}) hS' hroom fun r h' hsb hS2=>?_
  refine wpAny_pure ⟨plainId_quiet PyProof.Rows.F.plain_set_update_loop _,ih (i+1) _ (by omega) hlt (W.frame _ s' _ _ hst' (Nat.le_succ _) fun b hb o e=>?_) (by rw[pG];exact hS2) fun s'' hm'' hS''=>?_⟩
  ·rw[hsb.2 b (fun h:b=S=>hSf (by rw[←h];exact hb))];exact e
  ·refine hR s'' (Moved.trans W.gtrans ((hm.mono hsub).then_heap (Nat.le_succ _) fun b o hb e=>?_) hm'') hS''
   rw[hsb.2 b (fun h:b=S=>hb (by rw[h];exact ir))];exact e
end
theorem kR(w:World)(led:Bool):SS w led [] #[] (.fresh 0 0 led):=⟨by simp,fun e he=>by simp at he,by decide,by rfl,rfl,fun h=>absurd rfl h⟩
def jO(w:World):Bool:= !w.params.followText "set-order"
section
variable {prog:Program} {w:World} {A:Around} {E:Value→Shared→Prop} {s:Shared}
theorem sO(a:Value){Q₁:Value→Shared→Prop}
  (h:Q₁ (.ref s.heap.objs.size) {s with heap:=s.heap.push (dm #[] 0 (.fresh 0 0 (jO w)))}):
  codeAny (model prog w) A (.call (.builtin "set.__new__") ⟨[.type "set",a],[]⟩) (wants Q₁ E) s:=by
 refine codeAny_of_tree ?_
 show wpAny _ A.in1 (do checkBuiltinCall "set.__new__" ⟨[.type "set",a],[]⟩;again (.builtin "set.__new__" ⟨[.type "set",a],[]⟩)) _ _ s
 refine wpAny_bind (wpAny_of_eq (PySem.F.newCall_set_1 a) (wpAny_pure ⟨plainId_quiet PySem.F.plain_set_new _,codeAny_builtin PySem.F.entry_set_new ?_⟩))
 rw[Around.under_plainId PySem.F.plain_set_new _]
 unfold Builtin.«set.__new__» Builtin.Frozenset.newClass
 have hsub:=sub_set_self
 obtain⟨hp,g,d,tk,os⟩:=s
 dsimp only
 wp_walk
 refine wpAny_askSetting (wpAny_pure ?_)
 dsimp only
 simp only[newObj]
 refine wpAny_bind (wpAny_alloc (wpAny_pure ?_))
 exact wpAny_pure h
end
end NhSet
namespace NhSet
open PySem PyProof.Rows
namespace F
theorem sP:isSubtype (.type "str") (.type "set")=pure false:=by rw[isSubtype_type];kernel_rfl
theorem kT:isSubtype (.type "str") (.type "frozenset")=pure false:=by rw[isSubtype_type];kernel_rfl
end F
section
variable {prog:Program} {w:World} {A:Around} {E:Value→Shared→Prop} {s:Shared}
theorem vL:∀{vs:List Value} {ns:List Str},StrsAre vs ns→∀(i:Nat) (v:Value),vs[i]? =some v→∃t,v=.str (ns.getD i ⟨#[]⟩) t
 |_,_,.nil,i,v,h=>by simp at h
 |_,_,.cons n t hr,0,v,h=>by simp at h;exact⟨t,by rw[←h];rfl⟩
 |_,_,.cons n t hr,i+1,v,h=>by
  simp only[Z3]at h
  obtain⟨t',e⟩:=vL hr i v h
  exact⟨t',by rw[e];rfl⟩
set_option maxHeartbeats 4000000 in
theorem wQ{l:Addr}{items:Array Value}{ns:List Str}{Q:Value→Shared→Prop}
  (hh:A.handled=none) (hl:s.heap.IsList l items) (hi:StrsAre items.toList ns) (hb:items.size+1 < scanBound)
  (h:∀(h':Heap) (tk:Nat),StrSet w h' s.heap.objs.size (jO w) (j8 (fun i=>ns.getD i ⟨#[]⟩) items.size)→
   (∀b o,b < s.heap.objs.size→s.heap.get? b=some o→h'.get? b=some o)→Q (.ref s.heap.objs.size) {s with heap:=h',toks:=tk}):
  wpAny (model prog w) A (call (.type "set") [.ref l]) Q E s:=by
 obtain⟨c,tl,hmro⟩:=PySem.F.called_set.mro
 have hmade:=PySem.F.called_set.made
 have hsub:=PySem.F.called_set.sub
 refine wpAny_call (codeAny_of_tree ?_)
 show wpAny _ _ (callAny (.type "set") _) _ _ _
 refine wpAny_pure ⟨Code.quiet_builtin _ (by decide+kernel),codeAny_builtin PySem.F.entry_type_call ?_⟩
 rw[Around.under_plain (weight_type_call_type "set" [.ref l] []) rfl]
 have h1:=PySem.F.called_set.notType
 have h2:=PySem.F.called_set.canCreate
 have hct:=PySem.F.typeCall_set_1 (.ref l)
 repeat (any_goals (first |assumption |wp_step))
 generalize hled:jO w=led at h
 refine codeAny_mono (sO (w:=w) (.ref l) (E:=E) (Q₁:=fun obj s₁=>obj=.ref s.heap.objs.size∧s₁={s with heap:=s.heap.push {cls:=.type "set",dict:=none,data:=.set #[] 0 (.fresh 0 0 led)}}) (by rw[hled];exact⟨rfl,rfl⟩)) fun r s₁ hr=>?_
 cases r with
 |error e=>exact hr
 |ok fl=>
  cases fl with
  |ret obj=>
   obtain⟨rfl,rfl⟩:=hr
   have hS:(s.heap.push {cls:=.type "set",dict:=none,data:=.set #[] 0 (.fresh 0 0 led)}).get? s.heap.objs.size=some {cls:=.type "set",dict:=none,data:=.set #[] 0 (.fresh 0 0 led)}:=jU _ rfl
   have hT:Shared.TypeIs {s with heap:=s.heap.push {cls:=.type "set",dict:=none,data:=.set #[] 0 (.fresh 0 0 led)}} (.ref s.heap.objs.size) "set":=⟨_,hS,rfl⟩
   have hli:=PySem.F.called_set.init.lookup
   have hbi:=PySem.F.called_set.init.bind (.ref s.heap.objs.size)
   repeat (any_goals (first |assumption |wp_step))
   refine codeAny_mono (codeAny_call_builtin (R:=wants (fun r s₂=>r=.none∧∃h' tk,s₂={s with heap:=h',toks:=tk}∧
     StrSet w h' s.heap.objs.size led (j8 (fun i=>ns.getD i ⟨#[]⟩) items.size)∧
     (∀b o,b < s.heap.objs.size→s.heap.get? b=some o→h'.get? b=some o)) E) PySem.F.called_set.init.plain PySem.F.entry_set_init (check_set_init_1 hT ?_)) fun r₂ s₂ hr₂=>?_
   ·obtain⟨ol,Df,hcl,nl,hdl⟩:=hl
    obtain⟨ocls,odict,odata,oslots⟩:=ol
    simp only at hcl hdl
    subst hcl;subst hdl
    have hol':(s.heap.push {cls:=.type "set",dict:=none,data:=.set #[] 0 (.fresh 0 0 led)}).get? l=some {cls:=.type "list",dict:=odict,data:=.seq items nl,slots:=oslots}:=gz _ Df
    have hsls:=PySem.F.sub_list_set
    have hslf:=PySem.F.sub_list_frozenset
    have hne:(Value.type "list" == Value.type "dict")=false:=by decide
    have hl1:(s.heap.push {cls:=.type "set",dict:=none,data:=.set #[] 0 (.fresh 0 0 led)}).IsList l items:=⟨_,hol',rfl,nl,rfl⟩
    unfold Builtin.«set.__init__» noKeywords Builtin.Frozenset.updateFrom
    generalize hPI:pyIter=PI
    wp_walk
    subst hPI
    refine wpAny_pyIter_list hl1 ?_
    refine wpAny_bind (wpAny_runValue ?_)
    have hlS:l < s.heap.objs.size:=gn Df
    have hh3:A.in1.in1.in1.handled=none:=by simp[hh]
    have hneI:l≠(s.heap.push {cls:=.type "set",dict:=none,data:=.set #[] 0 (.fresh 0 0 led)}).objs.size:=by
     rw[Heap.size_push];exact gK (rO hlS)
    have hSf:s.heap.objs.size∉[(s.heap.push {cls:=.type "set",dict:=none,data:=.set #[] 0 (.fresh 0 0 led)}).objs.size,l]:=by
     rw[Heap.size_push];simp only[Zaq,Zaf,List.not_mem_nil,or_false,not_or]
     exact⟨gK (Nat.lt_succ_self _),Nat.ne_of_gt hlS⟩
    have hval:∀(i:Nat) (v:Value),items[i]? =some v→∃t,v=.str ((fun i=>ns.getD i ⟨#[]⟩) i) t:=fun i v hv=>
     vL hi i v (by rw[Array.getElem?_toList];exact hv)
    refine mF ((Walks.list hh3 _ l hneI items).toS) s.heap.objs.size
     hSf led (fun i=>ns.getD i ⟨#[]⟩) hval hb (items.size - 0) 0 _ (by omega) (Nat.zero_le _)
     ⟨⟨_,jU _ rfl,rfl,rfl⟩,(hl1.push _)⟩ ?hS0 ?hR
    case hS0=>
     have hget:((s.heap.push {cls:=.type "set",dict:=none,data:=.set #[] 0 (.fresh 0 0 led)}).push {cls:=.type "list_iterator",data:=.fields #[.ref l,.int 0 0]}).get? s.heap.objs.size
       =some {cls:=.type "set",dict:=none,data:=.set #[] 0 (.fresh 0 0 led)}:=gz _ hS
     exact⟨_,_,_,hget,kR w led⟩
    case hR=>
     intro s' hm hS'
     obtain⟨h',g',d',tk',os'⟩:=s'
     have eg:g'=s.gens:=hm.gens
     have ed:d'=s.drawn:=hm.drawn
     have eo:os'=s.os:=hm.os
     subst eg;subst ed;subst eo
     show wpAny _ _ _ _ _ _
     refine wpAny_pure ?_
     show wpAny _ _ (ret Value.none) _ _ _
     refine wpAny_pure ⟨rfl,h',tk',rfl,hS',fun b o hb e=>?_⟩
     have hb1:b≠s.heap.objs.size:=gK hb
     have hb2:b≠(s.heap.push {cls:=.type "set",dict:=none,data:=.set #[] 0 (.fresh 0 0 led)}).objs.size:=by
      rw[Heap.size_push];exact gK (rO hb)
     exact hm.heap b o (by simp only[Zaq,Zaf,List.not_mem_nil,or_false,not_or];exact⟨hb1,hb2⟩) (gz _ (gz _ e))
   ·cases r₂ with
    |error e=>exact hr₂
    |ok fl₂=>
     cases fl₂ with
     |ret r=>
      obtain⟨rfl,h',tk,rfl,hS',hk'⟩:=hr₂
      repeat (any_goals (first |assumption |wp_step))
      exact h _ _ hS' hk'
     |_=>exact hr₂.elim
  |_=>exact hr.elim
def iK(x:Str)(i:Nat):Str:=⟨#[x.cps.getD i 0]⟩
set_option maxHeartbeats 4000000 in
theorem yF{x:Str}{t:Tok}{Q:Value→Shared→Prop}
  (hh:A.handled=none) (hb:x.cps.size+1 < scanBound)
  (h:∀(h':Heap) (tk:Nat),StrSet w h' s.heap.objs.size (jO w) (j8 (iK x) x.cps.size)→
   (∀b o,b < s.heap.objs.size→s.heap.get? b=some o→h'.get? b=some o)→Q (.ref s.heap.objs.size) {s with heap:=h',toks:=tk}):
  wpAny (model prog w) A (call (.type "set") [.str x t]) Q E s:=by
 obtain⟨c,tl,hmro⟩:=PySem.F.called_set.mro
 have hmade:=PySem.F.called_set.made
 have hsub:=PySem.F.called_set.sub
 refine wpAny_call (codeAny_of_tree ?_)
 show wpAny _ _ (callAny (.type "set") _) _ _ _
 refine wpAny_pure ⟨Code.quiet_builtin _ (by decide+kernel),codeAny_builtin PySem.F.entry_type_call ?_⟩
 rw[Around.under_plain (weight_type_call_type "set" [.str x t] []) rfl]
 have h1:=PySem.F.called_set.notType
 have h2:=PySem.F.called_set.canCreate
 have hct:=PySem.F.typeCall_set_1 (.str x t)
 repeat (any_goals (first |assumption |wp_step))
 generalize hled:jO w=led at h
 refine codeAny_mono (sO (w:=w) (.str x t) (E:=E) (Q₁:=fun obj s₁=>obj=.ref s.heap.objs.size∧s₁={s with heap:=s.heap.push {cls:=.type "set",dict:=none,data:=.set #[] 0 (.fresh 0 0 led)}}) (by rw[hled];exact⟨rfl,rfl⟩)) fun r s₁ hr=>?_
 cases r with
 |error e=>exact hr
 |ok fl=>
  cases fl with
  |ret obj=>
   obtain⟨rfl,rfl⟩:=hr
   have hS:(s.heap.push {cls:=.type "set",dict:=none,data:=.set #[] 0 (.fresh 0 0 led)}).get? s.heap.objs.size=some {cls:=.type "set",dict:=none,data:=.set #[] 0 (.fresh 0 0 led)}:=jU _ rfl
   have hT:Shared.TypeIs {s with heap:=s.heap.push {cls:=.type "set",dict:=none,data:=.set #[] 0 (.fresh 0 0 led)}} (.ref s.heap.objs.size) "set":=⟨_,hS,rfl⟩
   have hli:=PySem.F.called_set.init.lookup
   have hbi:=PySem.F.called_set.init.bind (.ref s.heap.objs.size)
   repeat (any_goals (first |assumption |wp_step))
   refine codeAny_mono (codeAny_call_builtin (R:=wants (fun r s₂=>r=.none∧∃h' tk,s₂={s with heap:=h',toks:=tk}∧
     StrSet w h' s.heap.objs.size led (j8 (iK x) x.cps.size)∧
     (∀b o,b < s.heap.objs.size→s.heap.get? b=some o→h'.get? b=some o)) E) PySem.F.called_set.init.plain PySem.F.entry_set_init (check_set_init_1 hT ?_)) fun r₂ s₂ hr₂=>?_
   ·have hsls:=F.sP
    have hslf:=F.kT
    have hne:(Value.type "str" == Value.type "dict")=false:=by decide
    have hTx:Shared.TypeIs {s with heap:=s.heap.push {cls:=.type "set",dict:=none,data:=.set #[] 0 (.fresh 0 0 led)}} (.str x t) "str":=rfl
    unfold Builtin.«set.__init__» noKeywords Builtin.Frozenset.updateFrom
    generalize hPI:pyIter=PI
    wp_walk
    subst hPI
    refine wpAny_pyIter_str fun o St W hst=>?_
    refine wpAny_bind (wpAny_runValue ?_)
    have hh3:A.in1.in1.in1.handled=none:=by simp[hh]
    have hSf:s.heap.objs.size∉[(s.heap.push {cls:=.type "set",dict:=none,data:=.set #[] 0 (.fresh 0 0 led)}).objs.size]:=by
     rw[Heap.size_push];simp only[Zaq,Zaf,List.not_mem_nil,or_false,not_or]
     exact gK (Nat.lt_succ_self _)
    have hval:∀(i:Nat) (v:Value),SignAt x i v→∃t,v=.str (iK x i) t:=fun i v ⟨c,u,hc,hv⟩=>⟨u,by rw[hv];simp[iK,Array.getD_eq_getD_getElem?,hc]⟩
    refine mF ((W _ hh3).toS) s.heap.objs.size
     hSf led (iK x) hval hb (x.cps.size - 0) 0 _ (by omega) (Nat.zero_le _) hst ?hS0 ?hR
    case hS0=>exact⟨_,_,_,gz _ hS,kR w led⟩
    case hR=>
     intro s' hm hS'
     obtain⟨h',g',d',tk',os'⟩:=s'
     have eg:g'=s.gens:=hm.gens
     have ed:d'=s.drawn:=hm.drawn
     have eo:os'=s.os:=hm.os
     subst eg;subst ed;subst eo
     show wpAny _ _ _ _ _ _
     refine wpAny_pure ?_
     show wpAny _ _ (ret Value.none) _ _ _
     refine wpAny_pure ⟨rfl,h',tk',rfl,hS',fun b o hb e=>?_⟩
     have hb1:b≠s.heap.objs.size:=gK hb
     have hb2:b≠(s.heap.push {cls:=.type "set",dict:=none,data:=.set #[] 0 (.fresh 0 0 led)}).objs.size:=by
      rw[Heap.size_push];exact gK (rO hb)
     exact hm.heap b o (by simp only[Zaq,Zaf,List.not_mem_nil,or_false,not_or];exact⟨hb1,hb2⟩) (gz _ (gz _ e))
   ·cases r₂ with
    |error e=>exact hr₂
    |ok fl₂=>
     cases fl₂ with
     |ret r=>
      obtain⟨rfl,h',tk,rfl,hS',hk'⟩:=hr₂
      repeat (any_goals (first |assumption |wp_step))
      exact h _ _ hS' hk'
     |_=>exact hr₂.elim
  |_=>exact hr.elim
end
end NhSet
namespace NhSet
open PySem PyProof.Rows
theorem j9{α:Type}:∀{l:List α} {i:Nat} (h:i < l.length),(l[i]::l.eraseIdx i).Perm l
 |x::xs,0,h=>List.Perm.refl _
 |x::xs,i+1,h=>by
  have:=j9 (l:=xs) (i:=i) (by simpa using h)
  simp only[List.getElem_cons_succ,List.eraseIdx_cons_succ]
  exact(List.Perm.swap x _ _).trans (this.cons x)
theorem pH{α:Type}(next:Nat→Nat):∀(fuel k:Nat) (left:List α) (out:Array α),left.length=fuel→(pickOrder.go next fuel k left out).toList.Perm (out.toList++left)
 | 0,k,left,out,h=>by
  have:left=[]:=List.length_eq_zero_iff.mp h
  subst this;simp[pickOrder.go]
 |fuel+1,k,left,out,h=>by
  unfold pickOrder.go
  have hlt:next k % left.length < left.length:=Nat.mod_lt _ (by omega)
  rw[wc hlt]
  dsimp only
  refine(pH next fuel (k+1) _ _ (by rw[List.length_eraseIdx_of_lt hlt];omega)).trans ?_
  rw[Array.toList_push,ou]
  exact(j9 hlt).append_left _
theorem nQ{α:Type}(next:Nat→Nat)(xs:Array α):(pickOrder next xs).toList.Perm xs.toList:=by
 have:=pH next xs.size 0 xs.toList #[] (by simp)
 simpa[pickOrder]using this
section
variable {M:Model} {A:Around} {E:Value→Shared→Prop}
theorem qM{src:Source}{n:Nat}{s:Shared}{Q:Nat→Shared→Prop}(hn:n≠0)(h:∀i d,i < n→Q i {s with drawn:=d}):wpAny M A (choose src n) Q E s:=fun Γ p hΓ=>by
 show Sem.wp M Γ (.choose src n .pure) _ _ p s
 rw[Sem.wp_choose]
 exact⟨hn,by rw[Sem.wp_pure];exact h _ _ (Nat.mod_lt _ (Nat.pos_of_ne_zero hn))⟩
theorem iY{α:Type}:∀(n:Nat) (xs:List α) (s:Shared) {Q:List α→Shared→Prop},xs.length=n→(∀ys d,ys.Perm xs→Q ys {s with drawn:=d})→wpAny M A (drawOrder n xs) Q E s
 | 0,xs,s,Q,hl,h=>by
  have:xs=[]:=List.length_eq_zero_iff.mp hl
  subst this
  exact wpAny_pure (h [] s.drawn (List.Perm.refl _))
 |n+1,[],s,Q,hl,h=>by simp at hl
 |n+1,x::xs,s,Q,hl,h=>by
  show wpAny M A (choose .order (x::xs).length >>= _) Q E s
  refine wpAny_bind (qM (by simp) fun i d hi=>?_)
  rw[wc hi]
  dsimp only
  refine wpAny_bind (iY n _ _ (by rw[List.length_eraseIdx_of_lt hi];simpa using hl) fun ys d' hp=>?_)
  exact wpAny_pure (h _ d' ((hp.cons _).trans (j9 hi)))
end
namespace F
theorem nR:entryFor table "set.__iter__"=some Builtin.«frozenset.__iter__»:=
 entryFor_alias (id':="frozenset.__iter__") (by kernel_rfl) rfl (by decide+kernel) (by kernel_rfl)
theorem slot_next:Slot "set_iterator" "__next__" "set_iterator.__next__":=
 .of (owner:="set_iterator") (n:="__next__") (by rw[typeLookup_type,builtinLookup_eq_fast];kernel_rfl) (by decide+kernel) (by decide+kernel) (by decide+kernel)
  (by first |exact .inl (by decide+kernel) |exact .inr (by decide+kernel)) (by rw[isSubtype_type];kernel_rfl)
theorem uP:entryFor table "set_iterator.__next__"=some Builtin.«set_iterator.__next__»:=entryFor_of_fast (by kernel_rfl)
theorem wR(a:Value):argsOk "set_iterator.__next__" ⟨[a],[]⟩:=by unfold argsOk;kernel_rfl
theorem pI:Slot "set_iterator" "__iter__" "set_iterator.__iter__":=
 .of (owner:="set_iterator") (n:="__iter__") (by rw[typeLookup_type,builtinLookup_eq_fast];kernel_rfl) (by decide+kernel) (by decide+kernel) (by decide+kernel)
  (by first |exact .inl (by decide+kernel) |exact .inr (by decide+kernel)) (by rw[isSubtype_type];kernel_rfl)
theorem uQ:entryFor table "set_iterator.__iter__"=some Builtin.«dict_keyiterator.__iter__»:=
 entryFor_alias (id':="dict_keyiterator.__iter__") (by kernel_rfl) rfl (by decide+kernel) (by kernel_rfl)
theorem wS(a:Value):argsOk "set_iterator.__iter__" ⟨[a],[]⟩:=by unfold argsOk;kernel_rfl
end F
abbrev sQ(first:Value)(i:Nat)(a:Addr)(n ep:Nat):Obj:={cls:=.type "set_iterator",data:=.fields #[first,.int i 0,.ref a,.int n 0,.int ep 0]}
section
variable {prog:Program} {w:World} {A:Around} {E:Value→Shared→Prop} {s:Shared}
theorem qN{I:Addr}{first:Value}{i:Nat}{a:Addr}{n ep:Nat}{Q:Value→Shared→Prop}(ho:s.heap.get? I=some (sQ first i a n ep))(h:Q (.ref I) s):wpAny (model prog w) A (pyIter (.ref I)) Q E s:=by
 have hT:s.TypeIs (.ref I) "set_iterator":=⟨_,ho,rfl⟩
 refine wpAny_pyIter_slot hT F.pI (wpAny_call_entry F.pI hT F.uQ ?_ (F.wS _))
 show wpAny _ _ (ret (.ref I)) _ _ s
 exact wpAny_pure ⟨_,rfl,"set_iterator",_,hT,F.slot_next.lookup,h⟩
theorem sR{a:Addr}{es:Array (Int×Value)}{ep:Nat}{t:SetTable}{Q:Bool→Shared→Prop}(ho:s.heap.get? a=some (dm es ep t))(hf:t.fits es.size=true)
  (h:Q (!(w.params.followText "set-order")&&(!t.plain&&decide (es.size > 1))) s):wpAny (model prog w) A (setDrawn a) Q E s:=by
 unfold setDrawn setsByText
 refine wpAny_bind (wpAny_setState_of ho rfl hf ?_)
 dsimp only
 refine wpAny_bind (wpAny_bind (wpAny_askSetting (wpAny_pure ?_)))
 exact wpAny_pure h
theorem qO{I:Addr}{Q:Option Value→Shared→Prop}(hh:A.handled=none){o:Obj}(hQ:∀h',Heap.ExtBut I s.heap h'→Q none {s with heap:=h'}){h1:Heap}(k:Heap.ExtBut I s.heap h1):
  wpAny (model prog w) A.in1 (newExc (.type "StopIteration") [] >>= fun e=>raiseNew e) (fun(fin:Fin) s'=>∃r,fin=.done (.ret r)∧wpAny (model prog w) A (pure (some r)) Q E s')
   (fun e s'=>wpAny (model prog w) A (isInstance e (.type "StopIteration") >>= fun b=>if b=true then pure none else throw e) Q E s') {s with heap:=h1}:=by
 refine wpAny_bind ?_
 simp only[newExc,newTuple]
 refine wpAny_bind (wpAny_newObj_type ?_ (by size_fits))
 refine wpAny_bind (m:=firstArgMember _ _) (wpAny_of_eq (a:=Value.none) (by first |rfl |(simp only[firstArgMember];rfl)) ?_)
 refine wpAny_newObj_type ?_ (by size_fits)
 simp only[raiseNew]
 refine wpAny_bind (wpAny_handled ?_)
 rw[show A.in1.handled=none from hh]
 refine wpAny_bind (wpAny_pure (wpAny_throw ?_))
 refine wpAny_bind (wpAny_isInstance (T:="StopIteration") (b:=true) ⟨_,jU _ rfl,rfl⟩ isSubtype_stop ?_)
 exact wpAny_pure (hQ _ ((k.push _).push _))
end
end NhSet
namespace NhSet
open PySem PyProof.Rows
section
variable {prog:Program} {w:World} {A:Around} {E:Value→Shared→Prop} {s:Shared}
theorem fK{I:Addr}{first:Value}{i:Nat}{a:Addr}{n ep:Nat}{Q:Option Value→Shared→Prop}(hI:s.heap.get? I=some (sQ first i a n ep)){es:Array (Int×Value)}{t:SetTable}(ha:s.heap.get? a=some (dm es ep t))(hf:t.fits es.size=true)(hn:es.size=n)
  (h:wpAny (model prog w) A.in1 (if let .int slot _:=first then do
    match ←setNext a slot.toNat i ep with
    |some (x,next)=>do
     setField (.ref I) 0 (rawInt next)
     setField (.ref I) 1 (rawInt (i+1))
     ret x
    |none=>do setField (.ref I) 2 .none;raiseNew (←newExc (.type "StopIteration") [])
   else do
    let some places ←seqItems? first |unsupported "internal:set_iterator"
    match places[i]? with
    |some (.int place _)=>do
     let x ←setNextDrawn a place.toNat ep
     setField (.ref I) 1 (rawInt (i+1))
     ret x
    |some _=>unsupported "internal:set_iterator"
    |none=>do setField (.ref I) 0 (rawInt 0);setField (.ref I) 2 .none;raiseNew (←newExc (.type "StopIteration") []))
   (fun(fin:Fin) s'=>∃r,fin=.done (.ret r)∧wpAny (model prog w) A (pure (some r)) Q E s')
   (fun e s'=>wpAny (model prog w) A (isInstance e (.type "StopIteration") >>= fun b=>if b=true then pure none else throw e) Q E s') s):
  wpAny (model prog w) A (pyNext (.ref I)) Q E s:=by
 have hT':s.TypeIs (.ref I) "set_iterator":=⟨_,hI,rfl⟩
 unfold pyNext
 refine wpAny_bind (wpAny_attempt (wpAny_callSpecial?_slot (name:=Str.ofString "__next__") hT' F.slot_next (wpAny_call_entry F.slot_next hT' F.uP ?_ (F.wR _))))
 unfold Builtin.«set_iterator.__next__»
 refine wpAny_bind (m:=slotArgs _ _ _) (wpAny_pure ?_)
 refine wpAny_bind (wpAny_fieldsOf hI rfl ?_)
 dsimp only
 refine wpAny_bind (wpAny_setEntries_of ha rfl hf ?_)
 rw[if_neg (by simp[hn])]
 exact h
abbrev B6(es:Array (Int×Value))(j:Nat):Value:=(es.getD j (0,.none)).2
theorem df{I:Addr}{o:Obj}{vs:Array Value}{k:Nat}{x:Value}{Q:Unit→Shared→Prop}(ho:s.heap.get? I=some o)(hd:o.data=.fields vs)(hk:k < vs.size)(hQ:∀h',Heap.SameBut I s.heap h'→h'.get? I=some {o with data:=.fields (vs.setIfInBounds k x)}→Q () {s with heap:=h'}):wpAny (model prog w) A (setField (.ref I) k x) Q E s:=by
 refine wpAny_setField ho hd hk (hQ _ (Heap.SameBut.update ..) ?_)
 have:=Heap.get?_update_self (Obj.mapFields fun vs=>vs.setIfInBounds k x) ho (Obj.isFreed_of_fields (Obj.data_mapFields hd _))
 rw[this]
 obtain⟨c,d,dt,sl⟩:=o
 simp only at hd
 subst hd
 rfl
theorem uR(hh:A.handled=none){I T a:Addr}{es:Array (Int×Value)}{ep:Nat}{t:SetTable}(π:List Nat)(hp:∀j∈π,j < es.size)(hl:π.length=es.size)(hf:t.fits es.size=true)(hTI:T≠I)(haI:a≠I):
  Walks prog w A I [I,T,a] [I] (π.map (B6 es)).length (fun i v=>(π.map (B6 es))[i]? =some v)
   (fun i h=>h.get? I=some (sQ (.ref T) i a es.size ep)∧h.get? T=some {cls:=.type "tuple",data:=.seq (π.map fun(i:Nat)=>rawInt i).toArray}∧h.get? a=some (dm es ep t)) where
 sub:=fun b hb=>by simp at hb;simp[hb]
 frame:=fun _ _ _ st hk=>⟨hk I (by simp) _ st.1,hk T (by simp) _ st.2.1,hk a (by simp) _ st.2.2⟩
 self:=fun _ _ _ _ st hQ=>qN st.1 hQ
 item:=fun i s Q E hi st hQ=>by
  obtain⟨hI,hT,ha⟩:=st
  rw[eQ]at hi
  refine fK hI ha hf rfl ?_
  dsimp only
  refine wpAny_bind (wpAny_seqItems hT rfl ?_)
  dsimp only
  have e:(π.map fun(i:Nat)=>rawInt i).toArray[i]? =some (.int (π[i]:Nat) 0):=by
   simp[hi,rawInt]
  rw[e]
  dsimp only
  have hj:=hp π[i] (List.getElem_mem hi)
  unfold setNextDrawn
  refine wpAny_bind (wpAny_bind (wpAny_setState_of ha rfl hf ?_))
  dsimp only
  rw[if_neg (by simp)]
  have e2:es[((π[i]:Nat):Int).toNat]? =some (es[π[i]]):=by simp[hj]
  rw[e2]
  refine wpAny_pure ?_
  refine wpAny_bind (df hI rfl (by simp) fun h' hs' ho'=>?_)
  refine wpAny_pure ⟨_,rfl,wpAny_pure (hQ _ h' s.toks ?_ ⟨?_,?_,?_⟩ fun b o hb e=>hs'.extBut b o (fun z=>hb (by simp[z])) e)⟩
  ·simp[hi,B6,hj]
  ·rw[ho'];simp[rawInt]
  ·exact hs'.extBut T _ hTI hT
  ·exact hs'.extBut a _ haI ha
 done:=fun s Q E st hQ=>by
  obtain⟨hI,hT,ha⟩:=st
  refine fK hI ha hf rfl ?_
  dsimp only
  refine wpAny_bind (wpAny_seqItems hT rfl ?_)
  dsimp only
  have e:(π.map fun(i:Nat)=>rawInt i).toArray[(π.map (B6 es)).length]? =none:=by simp
  rw[e]
  dsimp only
  refine wpAny_bind (df hI rfl (by simp) fun h' hs' ho'=>?_)
  refine wpAny_bind (df (s:={s with heap:=h'}) ho' rfl (by simp) fun h2 hs2 _=>?_)
  exact qO (I:=I) (o:=dm es ep t) hh (fun h3 k=>hQ h3 s.toks fun b o hb e=>k b o (fun z=>hb (by simp[z])) e) (hs'.trans hs2).extBut
theorem kU {a:Addr} {es:Array (Int×Value)} {ep:Nat} {t:SetTable} {slot given:Nat} {Q:Option (Value×Nat)→Shared→Prop} (hb:w.params.followText "set-order"=true) (ha:s.heap.get? a=some (dm es ep t)) (hf:t.fits es.size=true)
  (h:Q (((pickOrder (w.params.setOrder a ep) es)[given]?).map fun e=>(e.2,slot)) s):wpAny (model prog w) A (setNext a slot given ep) Q E s:=by
 unfold setNext setsByText
 refine wpAny_bind (wpAny_setState_of ha rfl hf ?_)
 dsimp only
 refine wpAny_bind (wpAny_bind (wpAny_askSetting (wpAny_pure ?_)))
 rw[if_pos (show(model prog w).w.params.followText "set-order"=true from hb)]
 rw[if_neg (by simp)]
 refine wpAny_bind ?_
 unfold setWalk setsByText
 refine wpAny_bind (wpAny_setState_of ha rfl hf ?_)
 dsimp only
 refine wpAny_bind (wpAny_bind (wpAny_askSetting (wpAny_pure ?_)))
 rw[if_pos (show(model prog w).w.params.followText "set-order"=true from hb)]
 refine wpAny_bind (wpAny_askSetting (wpAny_pure ?_))
 exact wpAny_pure h
theorem mG {a:Addr} {es:Array (Int×Value)} {ep:Nat} {t:SetTable} {slot given:Nat} {Q:Option (Value×Nat)→Shared→Prop} (hb:w.params.followText "set-order"=false) (hsz:es.size≤1) (hled:t.led=true) (ha:s.heap.get? a=some (dm es ep t)) (hf:t.fits es.size=true)
  (h:Q (match es[SetTable.below t.place slot]?,t.place[SetTable.below t.place slot]? with |some (_,x),some j=>some (x,j+1) |_,_=>none) s):wpAny (model prog w) A (setNext a slot given ep) Q E s:=by
 unfold setNext setsByText
 refine wpAny_bind (wpAny_setState_of ha rfl hf ?_)
 dsimp only
 refine wpAny_bind (wpAny_bind (wpAny_askSetting (wpAny_pure ?_)))
 rw[if_neg (show ¬((model prog w).w.params.followText "set-order"=true) by show ¬(w.params.followText "set-order"=true);rw[hb];decide)]
 have hd:(!t.plain&&decide (es.size > 1))=false:=by rw[decide_eq_false (by omega)];simp
 show wpAny _ _ (if (!t.plain&&decide (es.size > 1))=true then _ else _) _ _ _
 rw[hd,if_neg (by decide)]
 show wpAny _ _ ((if (!t.led&& !es.isEmpty)=true then unsupported "set:maker-not-led" else pure PUnit.unit) >>= _) _ _ _
 rw[hled,if_neg (by simp)]
 refine wpAny_bind (wpAny_pure ?_)
 exact wpAny_pure h
theorem wT (hh:A.handled=none) {I a:Addr} {es:Array (Int×Value)} {ep:Nat} {t:SetTable} (hb:w.params.followText "set-order"=true) (hf:t.fits es.size=true) (haI:a≠I):
  Walks prog w A I [I,a] [I] ((pickOrder (w.params.setOrder a ep) es).toList.map (·.2)).length (fun i v=>((pickOrder (w.params.setOrder a ep) es).toList.map (·.2))[i]? =some v)
   (fun i h=>h.get? I=some (sQ (.int 0 0) i a es.size ep)∧h.get? a=some (dm es ep t)) where
 sub:=fun b hb=>by simp at hb;simp[hb]
 frame:=fun _ _ _ st hk=>⟨hk I (by simp) _ st.1,hk a (by simp) _ st.2⟩
 self:=fun _ _ _ _ st hQ=>qN st.1 hQ
 item:=fun i s Q E hi st hQ=>by
  obtain⟨hI,ha⟩:=st
  have hi':i < (pickOrder (w.params.setOrder a ep) es).size:=by simpa using hi
  refine fK hI ha hf rfl ?_
  dsimp only
  refine wpAny_bind (kU hb ha hf ?_)
  rw[Array.getElem?_eq_getElem hi']
  dsimp only[Z1]
  refine wpAny_bind (df hI rfl (by simp) fun h' hs' ho'=>?_)
  refine wpAny_bind (df (s:={s with heap:=h'}) ho' rfl (by simp) fun h2 hs2 ho2=>?_)
  refine wpAny_pure ⟨_,rfl,wpAny_pure (hQ _ h2 s.toks ?_ ⟨?_,?_⟩ fun b o hb e=>(hs'.trans hs2).extBut b o (fun z=>hb (by simp[z])) e)⟩
  ·simp[hi']
  ·rw[ho2];simp[rawInt]
  ·exact(hs'.trans hs2).extBut a _ haI ha
 done:=fun s Q E st hQ=>by
  obtain⟨hI,ha⟩:=st
  refine fK hI ha hf rfl ?_
  dsimp only
  refine wpAny_bind (kU hb ha hf ?_)
  rw[show(pickOrder (w.params.setOrder a ep) es)[((pickOrder (w.params.setOrder a ep) es).toList.map (·.2)).length]? =none by simp]
  dsimp only[Option.map_none]
  refine wpAny_bind (df hI rfl (by simp) fun h' hs' ho'=>?_)
  exact qO (I:=I) (o:=dm es ep t) hh (fun h3 k=>hQ h3 s.toks fun b o hb e=>k b o (fun z=>hb (by simp[z])) e) hs'.extBut
theorem nS{xs:Array Nat}(h:xs.size≤1):SetTable.below xs 0=0:=by
 obtain⟨l⟩:=xs
 match l,h with
 |[],_=>rfl
 |[p],_=>simp[SetTable.below,SetTable.below.go]
theorem uS{p:Nat}:SetTable.below #[p] (p+1)=1:=by simp[SetTable.below,SetTable.below.go]
theorem yG (hh:A.handled=none) {I a:Addr} {es:Array (Int×Value)} {ep:Nat} {t:SetTable} (hb:w.params.followText "set-order"=false) (hsz:es.size≤1) (hled:t.led=true) (hf:t.fits es.size=true) (haI:a≠I):
  Walks prog w A I [I,a] [I] (es.toList.map (·.2)).length (fun i v=>(es.toList.map (·.2))[i]? =some v)
   (fun i h=>h.get? I=some (sQ (.int (if i=0 then 0 else (t.place.getD 0 0+1:Nat)) 0) i a es.size ep)∧h.get? a=some (dm es ep t)) where
 sub:=fun b hb=>by simp at hb;simp[hb]
 frame:=fun _ _ _ st hk=>⟨hk I (by simp) _ st.1,hk a (by simp) _ st.2⟩
 self:=fun _ _ _ _ st hQ=>qN st.1 hQ
 item:=fun i s Q E hi st hQ=>by
  obtain⟨hI,ha⟩:=st
  have hi':i < es.size:=by simpa using hi
  have hi0:i=0:=by omega
  subst hi0
  rw[if_pos rfl]at hI
  have hps:t.place.size=es.size:=by
   have:=hf;simp only[SetTable.fits,uf,beq_iff_eq]at this;exact this.1
  refine fK hI ha hf rfl ?_
  dsimp only
  refine wpAny_bind (mG hb hsz hled ha hf ?_)
  rw[show((0:Int)).toNat=0 from rfl,nS (by omega),Array.getElem?_eq_getElem hi',Array.getElem?_eq_getElem (show 0 < t.place.size by omega)]
  dsimp only
  refine wpAny_bind (df hI rfl (by simp) fun h' hs' ho'=>?_)
  refine wpAny_bind (df (s:={s with heap:=h'}) ho' rfl (by simp) fun h2 hs2 ho2=>?_)
  refine wpAny_pure ⟨_,rfl,wpAny_pure (hQ _ h2 s.toks ?_ ⟨?_,?_⟩ fun b o hb e=>(hs'.trans hs2).extBut b o (fun z=>hb (by simp[z])) e)⟩
  ·simp[hi']
  ·rw[ho2]
   have:t.place.getD 0 0=t.place[0]:=by simp[Array.getD,show 0 < t.place.size by omega]
   simp[rawInt,this]
  ·exact(hs'.trans hs2).extBut a _ haI ha
 done:=fun s Q E st hQ=>by
  obtain⟨hI,ha⟩:=st
  have hps:t.place.size=es.size:=by
   have:=hf;simp only[SetTable.fits,uf,beq_iff_eq]at this;exact this.1
  have hlen:(es.toList.map (·.2)).length=es.size:=by simp
  rw[hlen]at hI
  refine fK hI ha hf rfl ?_
  dsimp only
  refine wpAny_bind (mG hb hsz hled ha hf ?_)
  have hno:(match es[SetTable.below t.place (if es.size=0 then (0:Int)else ((t.place.getD 0 0+1:Nat):Int)).toNat]?,t.place[SetTable.below t.place (if es.size=0 then (0:Int)else ((t.place.getD 0 0+1:Nat):Int)).toNat]? with |some (_,x),some j=>some (x,j+1) |_,_=>(none:Option (Value×Nat)))=none:=by
   by_cases z:es.size=0
   ·rw[if_pos z,show((0:Int)).toNat=0 from rfl,nS (by omega),Array.getElem?_eq_none (by omega)]
   ·rw[if_neg z]
    obtain⟨⟨p⟩,hp⟩:∃q:{p:Nat // t.place=#[p]},True:=by
     generalize t.place=pl at hps
     obtain⟨l⟩:=pl
     match l,hps with
     |[],h=>simp at h;omega
     |[p],h=>exact⟨⟨p,rfl⟩,trivial⟩
     |_::_::_,h=>simp at h;omega
    rename_i hpl
    rw[hpl]
    simp only[Int.toNat_natCast]
    have:(#[p]:Array Nat).getD 0 0=p:=rfl
    rw[this,uS,Array.getElem?_eq_none (show es.size≤1 by omega)]
  rw[hno]
  dsimp only
  refine wpAny_bind (df hI rfl (by simp) fun h' hs' ho'=>?_)
  exact qO (I:=I) (o:=dm es ep t) hh (fun h3 k=>hQ h3 s.toks fun b o hb e=>k b o (fun z=>hb (by simp[z])) e) hs'.extBut
theorem yH{a:Addr}{es:Array (Int×Value)}{ep:Nat}{t:SetTable}{ks:List Str}{Q:Value→Shared→Prop}(ha:s.heap.get? a=some (dm es ep t))(S:SS w (jO w) ks es t)
  (hQ:∀(s':Shared) (I:Addr) (fp:List Addr) (St:Nat→Heap→Prop) (items:List Value),(∀b o,s.heap.get? b=some o→s'.heap.get? b=some o)→s.heap.objs.size≤s'.heap.objs.size→s'.gens=s.gens→s'.os=s.os→s'.toks=s.toks→(∀b∈fp,b=a∨s.heap.objs.size≤b)→s.heap.objs.size≤I→
   (∀A':Around,A'.handled=none→Walks prog w A' I fp [I] items.length (fun i v=>items[i]? =some v) St)→St 0 s'.heap→items.Perm (es.toList.map (·.2))→Q (.ref I) s'):
  wpAny (model prog w) A (pyIter (.ref a)) Q E s:=by
 have hT:s.TypeIs (.ref a) "set":=⟨_,ha,rfl⟩
 have hlt:a < s.heap.objs.size:=gn ha
 refine wpAny_pyIter_slot hT PySem.F.slot_set_iter (wpAny_call_entry PySem.F.slot_set_iter hT F.nR ?_ (PySem.F.args_set_iter_1 _))
 unfold Builtin.«frozenset.__iter__» Builtin.Frozenset.slot0 slotArgs
 simp only[List.isEmpty_nil,↓reduceIte,bind_assoc,Z5,bne_self_eq_false,bB]
 unfold Builtin.Frozenset.addrOf Builtin.Frozenset.sizeOf
 refine wpAny_bind (wpAny_pure ?_)
 try dsimp only
 refine wpAny_bind (wpAny_pure ?_)
 refine wpAny_bind (wpAny_bind (wpAny_setEntries_of ha rfl S.fits (wpAny_pure ?_)))
 refine wpAny_bind (sR ha S.fits ?_)
 cases hd:(!(w.params.followText "set-order")&&(!t.plain&&decide (es.size > 1)))with
 |true=>
  simp only[↓reduceIte]
  refine wpAny_bind (iY es.size (List.range es.size) s (by simp) fun π d hp=>?_)
  have hl:π.length=es.size:=by rw[hp.length_eq,List.length_range]
  have hm:∀j∈π,j < es.size:=fun j hj=>List.mem_range.mp (hp.mem_iff.mp hj)
  refine wpAny_bind (wpAny_newTuple (s:={s with drawn:=d}) ?_ (by rw[eQ,hl];exact fits_of_scanBound S.bound))
  have ha2:(s.heap.push {cls:=.type "tuple",data:=.seq (π.map fun(i:Nat)=>rawInt i).toArray}).get? a=some (dm es ep t):=gz _ ha
  refine wpAny_bind (wpAny_setEpoch_of (s:={s with drawn:=d,heap:=s.heap.push {cls:=.type "tuple",data:=.seq (π.map fun(i:Nat)=>rawInt i).toArray}}) ha2 rfl S.fits ?_)
  refine wpAny_bind (wpAny_newObj_type ?_)
  have hs1:(s.heap.push {cls:=.type "tuple",data:=.seq (π.map fun(i:Nat)=>rawInt i).toArray}).objs.size=s.heap.objs.size+1:=by rw[Heap.size_push]
  refine wpAny_pure ⟨_,rfl,"set_iterator",_,⟨_,jU _ rfl,rfl⟩,F.slot_next.lookup,?_⟩
  refine hQ _ _ _ _ (π.map (B6 es)) (fun b o e=>gz _ (gz _ e)) (by rw[Heap.size_push,Heap.size_push];omega) rfl rfl rfl ?_ (by dsimp only;rw[hs1];omega)
   (fun A' hA=>uR hA (T:=s.heap.objs.size) (a:=a) (ep:=ep) (t:=t) π hm hl S.fits (by dsimp only;rw[hs1];exact gK (Nat.lt_succ_self _)) (by dsimp only;rw[hs1];exact gK (rO hlt)))
   ⟨jU _ rfl,gz _ (jU _ rfl),gz _ ha2⟩ ?_
  ·intro b hb
   rcases Zaq.mp hb with rfl |hb
   ·right;dsimp only;rw[hs1];omega
   rcases Zaq.mp hb with rfl |hb
   ·right;exact fS _
   ·left;exact Zaf.mp hb
  ·refine(hp.map (B6 es)).trans ?_
   rw[show(List.range es.size).map (B6 es)=es.toList.map (·.2)from ?_]
   refine List.ext_getElem (by simp) fun i h1 h2=>?_
   have hi:i < es.size:=by simpa using h1
   simp[B6,hi]
 |false=>
  simp only[Bool.false_eq_true,↓reduceIte]
  refine wpAny_bind (wpAny_pure ?_)
  refine wpAny_bind (wpAny_setEpoch_of ha rfl S.fits ?_)
  refine wpAny_bind (wpAny_newObj_type ?_)
  refine wpAny_pure ⟨_,rfl,"set_iterator",_,⟨_,jU _ rfl,rfl⟩,F.slot_next.lookup,?_⟩
  have hfp:∀b∈[s.heap.objs.size,a],b=a∨s.heap.objs.size≤b:=fun b hb=>by
   rcases Zaq.mp hb with rfl |hb
   ·right;exact fS _
   ·left;exact Zaf.mp hb
  cases hb:w.params.followText "set-order" with
  |true=>
   exact hQ _ _ _ _ ((pickOrder (w.params.setOrder a ep) es).toList.map (·.2)) (fun b o e=>gz _ e) (by rw[Heap.size_push];omega) rfl rfl rfl hfp (fS _)
    (fun A' hA=>wT hA (t:=t) hb S.fits (gK hlt)) ⟨jU _ rfl,gz _ ha⟩ ((nQ _ es).map _)
  |false=>
   have hled:t.led=true:=by rw[S.led,jO,hb];rfl
   have hsz:es.size≤1:=by
    rw[hb]at hd
    by_cases z:es.size=0
    ·omega
    ·rw[S.plain z]at hd
     simp at hd
     omega
   exact hQ _ _ _ _ (es.toList.map (·.2)) (fun b o e=>gz _ e) (by rw[Heap.size_push];omega) rfl rfl rfl hfp (fS _)
    (fun A' hA=>yG hA (t:=t) hb hsz hled S.fits (gK hlt)) ⟨jU _ rfl,gz _ ha⟩ (List.Perm.refl _)
end
end NhSet
namespace NhSet
open PySem PyProof.Rows
namespace F
theorem AM:typeLookup (.type "set") "__len__"=pure (some (.builtin "set.__len__")):=by rw[typeLookup_type,builtinLookup_eq_fast];kernel_rfl
end F
section
variable {prog:Program} {w:World} {A:Around} {E:Value→Shared→Prop} {s:Shared}
theorem sS{a:Addr}{es:Array (Int×Value)}{ep:Nat}{t:SetTable}{ks:List Str}{Q:List Value→Shared→Prop}(hh:A.handled=none)(ha:s.heap.get? a=some (dm es ep t))(S:SS w (jO w) ks es t)
  (hQ:∀(s':Shared) (items:List Value),(∀b o,s.heap.get? b=some o→s'.heap.get? b=some o)→s'.gens=s.gens→s'.os=s.os→s.heap.objs.size≤s'.heap.objs.size→items.Perm (es.toList.map (·.2))→Q items s'):
  wpAny (model prog w) A (collect (.ref a)) Q E s:=by
 have hlt:a < s.heap.objs.size:=gn ha
 unfold collect
 refine wpAny_bind (wpAny_runValue (codeAny_builtin PySem.F.entry_proto_collect ?_))
 rw[Around.under_plainId PySem.F.plain_proto_collect _]
 show wpAny _ A.in1 (newList [] >>= fun l=>again (.builtin "list.__iadd__" ⟨[l,.ref a],[]⟩)) _ _ s
 refine wpAny_bind (wpAny_newObj_type ?_)
 refine wpAny_pure ⟨plainId_quiet PySem.F.plain_list_iadd _,codeAny_builtin PySem.F.entry_list_iadd ?_⟩
 rw[Around.under_plainId PySem.F.plain_list_iadd _]
 show wpAny _ A.in1 (Builtin.List.listExtendWith (.ref s.heap.objs.size) (.ref a) (.ref s.heap.objs.size)) _ _ _
 unfold Builtin.List.listExtendWith
 have ha1:(s.heap.push {cls:=.type "list",data:=.seq ([]:List Value).toArray}).get? a=some (dm es ep t):=gz _ ha
 have hT1:Shared.TypeIs {s with heap:=s.heap.push {cls:=.type "list",data:=.seq ([]:List Value).toArray}} (.ref a) "set":=⟨_,ha1,rfl⟩
 refine wpAny_bind (wpAny_typeOf hT1 ?_)
 have h1:Builtin.List.listSameRef (.ref s.heap.objs.size) (.ref a)=false:=by simp[Builtin.List.listSameRef];exact Nat.ne_of_gt hlt
 have h2:(Value.type "set" == Value.type "list")=false:=by decide
 have h3:(Value.type "set" == Value.type "tuple")=false:=by decide
 simp only[h1,h2,h3,Bool.or_false,bB]
 refine wpAny_bind (yH ha1 S fun s2 I fp St items k2 z2 g2 o2 t2 hfp hI W hst hp=>?_)
 have hT2:s2.TypeIs (.ref a) "set":=⟨_,k2 a _ ha1,rfl⟩
 refine wpAny_bind (wpAny_holding ?_)
 unfold Builtin.List.listLengthHint
 refine wpAny_bind (wpAny_specialOf hT2 F.AM ?_)
 wp_delta
 refine wpAny_bind (wpAny_isInstance (T:="set") (b:=true) hT2 sub_set_self ?_)
 show wpAny _ A.in1 (typeOf (Value.ref a) >>= _) _ _ _
 refine wpAny_bind (wpAny_typeOf hT2 ?_)
 refine wpAny_pure ?_
 rw[if_pos (by decide)]
 refine wpAny_bind (wpAny_rule ?_)
 have hS0:s2.heap.get? s.heap.objs.size=some {cls:=.type "list",data:=.seq ([]:List Value).toArray}:=k2 _ _ (jU _ rfl)
 refine wpAny_bind ?_
 show wpAny _ A.in1 (updateSeq s.heap.objs.size (·.push .none) >>= fun _=>updateSeq s.heap.objs.size (·.pop)) _ _ _
 refine wpAny_bind (wpAny_updateSeq hS0 rfl ?_)
 have hS2:=Heap.get?_update_self (Obj.mapSeq (·.push Value.none)) hS0 rfl
 refine wpAny_updateSeq hS2 rfl ?_
 have hS3:=Heap.get?_update_self (Obj.mapSeq (·.pop)) hS2 rfl
 have oth:∀b o,b≠s.heap.objs.size→s2.heap.get? b=some o→
   ((s2.heap.update s.heap.objs.size (Obj.mapSeq (·.push Value.none))).update s.heap.objs.size (Obj.mapSeq (·.pop))).get? b=some o:=
  fun b o hb e=>(Heap.get?_update_other _ _ (Ne.symm hb)).trans ((Heap.get?_update_other _ _ (Ne.symm hb)).trans e)
 have hz1:(s.heap.push {cls:=.type "list",data:=.seq ([]:List Value).toArray}).objs.size=s.heap.objs.size+1:=by rw[Heap.size_push]
 have hnS:∀b,(s.heap.push {cls:=.type "list",data:=.seq ([]:List Value).toArray}).objs.size≤b→b≠s.heap.objs.size:=fun b hb e=>by
  rw[hz1,e]at hb;exact Nat.not_succ_le_self _ hb
 have hSf:s.heap.objs.size∉fp:=fun hm=>by
  rcases hfp _ hm with e |e
  ·exact absurd e (Nat.ne_of_gt hlt)
  ·exact hnS _ e rfl
 have hlen:items.length≤sizeLine:=by
  rw[hp.length_eq];simpa using fits_of_scanBound S.bound
 refine wpAny_pure ⟨plainId_quiet PySem.F.plain_extend_loop _,codeAny_extend_loopS (W A.in1 (by simp[hh])).toS hlen _ hSf _ items.length 0 _ _ _ rfl (Nat.zero_le _)
  ((W A.in1 (by simp[hh])).frame 0 s2.heap _ hst fun b hb o e=>oth b o (fun z=>hSf (z▸hb)) e) hS3 (ItemsOf.nil _) fun s' acc' c' hm hS' hacc=>?_⟩
 show wpAny _ A (load s.heap.objs.size >>= _) _ _ s'
 refine wpAny_bind (wpAny_load hS' ?_)
 have hacc':acc'.toList=items:=by
  refine List.ext_getElem? fun i=>?_
  rw[Array.getElem?_toList]
  by_cases hi:i < acc'.size
  ·rw[Array.getElem?_eq_getElem hi]
   exact(hacc.2 i _ (Array.getElem?_eq_getElem hi)).symm
  ·rw[Array.getElem?_eq_none (by omega),List.getElem?_eq_none (by rw[←hacc.1];omega)]
 refine wpAny_pure ?_
 rw[hacc']
 refine hQ s' items (fun b o e=>?_) (hm.gens.trans g2) (hm.os.trans o2) (jV (gn hS')) hp
 have hb:b < s.heap.objs.size:=gn e
 refine hm.heap b o (fun z=>?_) (oth b o (gK hb) (k2 b o (gz _ e)))
 rcases Zaq.mp z with z |z
 ·exact absurd z (gK hb)
 ·rw[Zaf.mp z]at hb
  have hI':s.heap.objs.size+1≤I:=by rw[←hz1];exact hI
  exact absurd (lE (Nat.lt_succ_self _) hI') (Nat.lt_asymm hb)
theorem uT{a:Addr}{ks:List Str}{Q:Value→Shared→Prop}(hh:A.handled=none)(hS:StrSet w s.heap a (jO w) ks)(h64:ks.length < 64)
  (h:∀(s':Shared) (l:Addr) (out:Array Value) (e:Nat) (ss':List Str),(∀b o,s.heap.get? b=some o→s'.heap.get? b=some o)→s'.gens=s.gens→s'.os=s.os→s.heap.objs.size≤l→s'.heap.get? l=some (seqObj "list" out e)→StrsAre out.toList ss'→ss'.Perm ks→sortedS ss'=true→Q (.ref l) s'):
  wpAny (model prog w) A (call (.builtin "sorted") [.ref a]) Q E s:=by
 obtain⟨es,ep,t,ha,S⟩:=hS
 refine Calls.call_function_entry kind_sorted plain_sorted entry_sorted (args_sorted1 _) ?_
 unfold Builtin.«sorted»
 refine wpAny_bind (m:=checkCount "sorted" 1 1 _) (wpAny_pure ?_)
 refine wpAny_bind (sS (by simp[hh]) ha S fun s1 items k1 g1 o1 hsz hp=>?_)
 have hpk:(items.map strOf).Perm ks:=(hp.map strOf).trans (by rw[List.map_map];exact S.perm)
 have hst:∀v∈items,∃x tk,v=.str x tk:=fun v hv=>by
  obtain⟨e,he,rfl⟩:=Zba.mp (hp.mem_iff.mp hv)
  obtain⟨x,tk,rfl⟩:=S.elems e he
  exact⟨x,tk,rfl⟩
 have hSA:=strsAre_map items hst
 have hl64:items.length < 64:=by have:=hpk.length_eq;rw[eQ]at this;omega
 refine wpAny_bind (wpAny_newList ?_)
 have hoL:(s1.heap.push (seqObj "list" items.toArray 0)).get? s1.heap.objs.size=some (seqObj "list" items.toArray 0):=jU _ rfl
 refine wpAny_bind (wpAny_holding (wpAny_call_entry slot_list_sort ⟨_,hoL,rfl⟩ entry_list_sort (list_sort_treeK (s:={s1 with heap:=s1.heap.push (seqObj "list" items.toArray 0)}) strKind_oneLt hoL hSA.keysOf (fun v₁ v₂ aU e=>keyKind_strs (by rw[←e];exact hSA)) hl64 fun st' a1 a2=>⟨_,rfl,?_⟩) (args_list_sort _)))
 obtain⟨ss',b1,b2,b3⟩:=sorted_out_str hSA a1 a2
 obtain⟨e,he⟩:=sortedHeap_at (out:=(arrOf st').map (·.2)) hoL
 refine wpAny_pure ⟨_,rfl,h _ s1.heap.objs.size _ e ss' (fun b o hb=>?_) g1 o1 hsz he b1 (b2.trans hpk) b3⟩
 have hb1:=k1 b o hb
 have hlt:=gn hb1
 dsimp only
 rw[sortedHeap_old (gK hlt) (by rw[size_push'];exact rO hlt),Heap.get?_push_ne _ _ _ (gK hlt)]
 exact hb1
end
end NhSet
namespace PL
open PySem L2 Nh
def wU(w:World)(a:Addr)(ks:List Str):HO:=.ext fun h=>NhSet.StrSet w h a (NhSet.jO w) ks
theorem yI(ns:List Str)(n:Nat)(h:n=ns.length):NhSet.j8 (fun i=>ns.getD i ⟨#[]⟩) n=i7 ns:=by
 have e:(List.range n).map (fun i=>ns.getD i ⟨#[]⟩)=ns:=by
  subst h
  refine List.ext_getElem (by simp) fun i h1 h2=>?_
  simp[h2]
 show((List.range n).map (fun i=>ns.getD i ⟨#[]⟩)).foldl NhSet.mQ []=ns.foldl zU []
 rw[e]
 rfl
theorem wV(x:Str):NhSet.j8 (NhSet.iK x) x.cps.size=i7 (kQ x):=by
 have e:(List.range x.cps.size).map (NhSet.iK x)=kQ x:=by
  refine List.ext_getElem (by simp[kQ]) fun i h1 h2=>?_
  have hi:i < x.cps.size:=by simpa using h1
  simp[kQ,NhSet.iK,hi]
 show((List.range x.cps.size).map (NhSet.iK x)).foldl NhSet.mQ []=(kQ x).foldl zU []
 rw[e]
 rfl
section
variable {X:Cx} {e:Expr} {m1:Bool} {f:bL} {p p2 pos pos2:Pos}
def FO(K:Frag)(w:World):List V→Hp→VK→Prop:=fun xs H Q=>
 (∃(p:Addr) (ss:List Str),xs=[.ref p]∧SqL K H p (ss.map V.str)∧ss.length < 4000∧∀a,H a=none→Q (.ref a) (upd H a (wU w a (i7 ss))))∨
 ∃x:Str,xs=[.str x]∧(kQ x).length < 4000∧∀a,H a=none→Q (.ref a) (upd H a (wU w a (i7 (kQ x))))
theorem wW(hc:X.calm=true):CallR X (.type "set") (FO X.K X.w):=by
 intro pins s σ H xs us Q I r h
 rcases h with⟨p,ss,rfl,hq,hl,q⟩ |⟨x,rfl,hl,q⟩
 ·cases r with
  |cons r rr=>
   cases rr
   cases r
   obtain⟨its,rv,pl,hz⟩:=I.list hq
   have hS:=sK rv
   have hlen:its.length=ss.length:=by have:=rv.length;simpa using this.symm
   refine NhSet.wQ (I.ok.hd hc) pl.isList (by simpa using hS) (by simp only[kB,scanBound];omega) fun h' tk S k=>?_
   rw[yI ss its.toArray.size (by simpa using hlen)]at S
   exact⟨.ref s.heap.objs.size,_,I.laid (fun b o e=>k b o (gn e) e) (fS _) (show ObjOk X.prog X.w _ _ _ (wU X.w s.heap.objs.size (i7 ss))from⟨S,S.obj,fun h1 h2 T kk=>T.at' kk⟩),rfl,q _ (I.hok.fresh (fS _))⟩
 ·cases r with
  |cons r rr=>
   cases rr
   obtain⟨t,rfl⟩:=r
   have hl2:x.cps.size < 4000:=by simpa[kQ]using hl
   refine NhSet.yF (I.ok.hd hc) (by simp only[scanBound];omega) fun h' tk S k=>?_
   rw[wV]at S
   exact⟨.ref s.heap.objs.size,_,I.laid (fun b o e=>k b o (gn e) e) (fS _) (show ObjOk X.prog X.w _ _ _ (wU X.w s.heap.objs.size (i7 (kQ x)))from⟨S,S.obj,fun h1 h2 T kk=>T.at' kk⟩),rfl,q _ (I.hok.fresh (fS _))⟩
def yJ(w:World):List V→Hp→VK→Prop:=fun xs H Q=>∃(a:Addr) (ks:List Str),xs=[.ref a]∧H a=some (wU w a ks)∧ks.length < 64∧∀l,H l=none→Q (.ref l) (upd H l (.lst ((mE ks).map V.str)))
theorem qP(hc:X.calm=true):CallR X (.builtin "sorted") (yJ X.w):=by
 intro pins s σ H xs us Q I r h
 obtain⟨a,ks,rfl,ha,h64,q⟩:=h
 cases r with
 |cons r rr=>
  cases rr
  cases r
  obtain⟨S,_,_⟩:ObjOk X.prog X.w H s.heap a (wU X.w a ks):=I.hok a _ ha
  refine NhSet.uT (I.ok.hd hc) S h64 fun s' l out e ss' k g o hl he b1 b2 b3=>?_
  have:=uM b2 b3
  subst this
  have new:ObjOk X.prog X.w (upd H l (.lst ((mE ks).map V.str))) s'.heap l (.lst ((mE ks).map V.str)):=⟨by rw[eQ,pF];exact ie (by omega),out.toList,e,sL b1,he⟩
  exact⟨.ref l,_,I.call' (ch:=[]) o (Un.laid k hl (I.hok.fresh hl)) (I.hok.laid k hl new) (by rw[g];exact I.bare) (fun _ z=>nomatch z),rfl,q _ (I.hok.fresh hl)⟩
theorem j_ (hc:X.calm=true) (hg:Gl X "sorted") (hm:X.mg "sorted"=none) (hg2:Gl X "set") (hm2:X.mg "set"=none) (ha:EX X e m1 f) (he:starEach [e] X.env=[(false,eval e X.env)]:=by rfl)
  (he2:starEach [.Call (.Name "set" p2) [e] [] pos2] X.env=[(false,eval (.Call (.Name "set" p2) [e] [] pos2) X.env)]:=by rfl):EX X (.Call (.Name "sorted" p) [.Call (.Name "set" p2) [e] [] pos2] [] pos) m1 (de f):=by
 refine cf (nq (qP hc) hg hm PyProof.Rows.boot_sorted (fT (lI (wW hc) hg2 hm2 PyProof.Rows.boot_set (fT ha iH he) (by decide) (by decide) he rfl) iH he2) (by decide) (by decide) he2 rfl) fun σ H Q z=>?_
 obtain⟨B,E,xs,Xs,res,E',fr,cl,e,q⟩:=z
 obtain⟨⟨s,E1⟩,e1,e⟩:=Za.mp e
 refine⟨B,E,xs,Xs,s,E1,fr,cl,e1,fun v1 H1 ⟨F,A,fr1⟩=>?_⟩
 obtain⟨A',fr2⟩:=fr1.pop
 simp only at e
 split at e
 ·rename_i ds ld
  obtain⟨ss,es,e⟩:=Za.mp e
  split at e
  ·rename_i hc
   cases e
   have r:=(fr1.look0 ld).1
   cases r with
   |lst h1 h2=>
    have:=qL h2 es
    subst this
    exact .inl ⟨_,ss,rfl,h1,hc.1,fun a ha=>⟨a,_,rfl,c_,hc.2,fun l hl=>q _ _ ⟨_,_,(fr2.grow (iy ha _)).newl (kP _) hl⟩⟩⟩
  ·cases e
 ·rename_i x ld
  split at e
  ·rename_i hc
   cases e
   have r:=(fr1.look0 ld).1
   cases r
   exact .inr ⟨x,rfl,hc.1,fun a ha=>⟨a,_,rfl,c_,hc.2,fun l hl=>q _ _ ⟨_,_,(fr2.grow (iy ha _)).newl (kP _) hl⟩⟩⟩
  ·cases e
 ·cases e
end
end PL
namespace PL
open PySem L2 Nh
theorem AN {X:Cx} {x:Str} {i:Int} {t:Tok} {pos:Pos} (hg:Gl X x) (hm:X.mg x=some (.int i t)) (hd:(x == ("__debug__":Str))=false:=by decide):EX X (.Name x pos) false (pC (.int i)):=by
 refine cf (vo (v:=.int i) hg hm ⟨t,rfl⟩ hd) fun σ H Q z=>?_
 obtain⟨B,E,xs,Xs,res,E',⟨F,A,fr⟩,cl,e,q⟩:=z
 cases e
 exact q _ _ ⟨F,A,fr.push ⟨rfl,_,rfl,.int _⟩⟩
theorem AO {X:Cx} {x y:Str} {t:Tok} {pos:Pos} (hg:Gl X x) (hm:X.mg x=some (.str y t)) (hd:(x == ("__debug__":Str))=false:=by decide):EX X (.Name x pos) false (pC (.str y)):=by
 refine cf (vo (v:=.str y) hg hm ⟨t,rfl⟩ hd) fun σ H Q z=>?_
 obtain⟨B,E,xs,Xs,res,E',⟨F,A,fr⟩,cl,e,q⟩:=z
 cases e
 exact q _ _ ⟨F,A,fr.push ⟨rfl,_,rfl,.str _⟩⟩
end PL
namespace Nh
open PySem L2
theorem NailsOk.stp{r:List Pc}{p:Pc}(h:NailsOk r)(hp:p.1 < 128):NailsOk (NH.stp r p):=by
 cases r with
 |nil=>
  show NailsOk (if p.2=0 then []else [p])
  split
  ·exact h
  ·intro q hq;rw[Zaf.mp hq];exact hp
 |cons x r=>
  rw[NH.iw]
  intro q hq
  rcases Zan.mp hq with h1 |h1
  ·unfold NH.xH at h1
   split at h1
   ·split at h1
    ·cases h1
    ·rw[Zaf.mp h1];exact hp
   ·split at h1
    ·rw[Zaf.mp h1];exact h x (ir ..)
    ·rcases Zaq.mp h1 with h2 |h2
     ·rw[h2];exact hp
     ·rw[Zaf.mp h2];exact h x (ir ..)
  ·exact h q (g6 _ h1)
theorem NailsOk.foldl:∀(c:List Pc) {r:List Pc},NailsOk r→NailsOk c→NailsOk (c.foldl NH.stp r)
 |[],_,h,_=>h
 |p::c,_,h,hc=>NailsOk.foldl c (h.stp (hc p (ir ..))) fun q hq=>hc q (g6 _ hq)
theorem NailsOk.take{c:List Pc}(h:NailsOk c)(i:Nat):NailsOk (c.take i):=fun p hp=>h p (List.mem_of_mem_take hp)
theorem NailsOk.drop{c:List Pc}(h:NailsOk c)(i:Nat):NailsOk (c.drop i):=fun p hp=>h p (List.mem_of_mem_drop hp)
theorem NailsOk.reverse{c:List Pc}(h:NailsOk c):NailsOk c.reverse:=fun p hp=>h p (List.mem_reverse.mp hp)
theorem NailsOk.append{c d:List Pc}(h:NailsOk c)(h':NailsOk d):NailsOk (c++d):=fun p hp=>(Zan.mp hp).elim (h p) (h' p)
theorem NailsOk.contr{c:List Pc}(h:NailsOk c):NailsOk (NH.contr c):=fun p hp=>by
 obtain⟨q,hq,e⟩:=Zba.mp hp
 subst e
 exact h q (List.mem_reverse.mp hq)
theorem NailsOk.short{c:List Pc}(h:NailsOk c):NailsOk (NH.short c):=(NailsOk.foldl c (fun _ z=>by cases z) h).reverse
theorem pJ:NailsOk []:=fun _ z=>by cases z
end Nh
namespace Nh
open PySem L2 PL
theorem NailsOk.rep{c:List Pc}(h:NailsOk c)(k:Nat):NailsOk (List.replicate k c).flatten:=fun p hp=>by
 obtain⟨l,hl,hpl⟩:=List.mem_flatten.mp hp
 rw[(List.mem_replicate.mp hl).2]at hpl
 exact h p hpl
theorem NailsOk.cutL{c:List Pc}(h:NailsOk c)(lo hi:Option Int):NailsOk (cutL c lo hi):=fun p hp=>h p (kK hp)
def l4(i:Int):Nat:=[97,98,99,122].getD i.toNat 97
theorem EJ:∀j,j < 26→(Str.ofString "abcdefghijklmnopqrstuvwxyz").cps.toList[j]? =some (97+j):=by decide+kernel
theorem FP(v:Int):atI (Str.ofString "abcdefghijklmnopqrstuvwxyz").cps.toList (v % 26)=some (97+(v % 26).toNat):=by
 have h0:=Int.emod_nonneg v (show(26:Int)≠0 by decide)
 have h1:=wd v (show(0:Int) < 26 by decide)
 rw[C9 h0]
 exact EJ _ (by omega)
theorem Dg:(Str.ofString "abcdefghijklmnopqrstuvwxyz").length≤1000000:=by decide+kernel
theorem qQ{i j:Int}(h1: -(2 ^ 64) < j)(h2:j < 2 ^ 64):ga i j=true:=by
 simp only[ga,Bool.or_eq_true,decide_eq_true_eq]
 exact .inl (.inr ⟨h1,h2⟩)
theorem kW{i j:Int}(h1: -(2 ^ 64) < i)(h2:i < 2 ^ 64):ga i j=true:=by
 simp only[ga,Bool.or_eq_true,decide_eq_true_eq]
 exact .inl (.inl ⟨h1,h2⟩)
theorem sT{j:Int}(h1:0 < j)(h2:j < 2 ^ 200):fI j=true:=decide_eq_true ⟨h1,h2⟩
theorem bv(i j:Int):wD (.int i) (.int j)=some (decide (i=j)):=rfl
theorem hW(i j:Str):wD (.str i) (.str j)=some (decide (i=j)):=rfl
theorem sU{c d:List Pc}(hc:NailsOk c)(hd:NailsOk d):wD (.list (c.map aj)) (.list (d.map aj))=some (decide (c=d)):=by
 have e:wD (.list (c.map aj)) (.list (d.map aj))=(if SeqAt.shaped (jN c)&&SeqAt.shaped (jN d)then some (PyData.eqv (jN c) (jN d))else none):=rfl
 rw[e,mr hc,mr hd,yc]
 rfl
theorem kX{c:List Pc}(hc:NailsOk c):wD (.list (c.map aj)) (.list [])=some (decide (c=[])):=sU hc pJ
theorem m6(a b:Nat):((⟨#[a]⟩:Str)=⟨#[b]⟩)=(a=b):=propext ⟨fun h=>by
 injection h with h
 simpa using congrArg Array.toList h,fun h=>by rw[h]⟩
end Nh
namespace L2
open PySem PySem.Spec PyProof.Rows
def vM(K:Frag)(h:Heap):Prop:=∀b q,mN K b=some q→h.get? b=some (tabObj #[])∧(∃c,PySem.W.CodeHd h c b)∧K.lookup b=none
def eB(K:Frag)(a:Addr)(so:Option HO):Hp:=fun b=>match mN K b with
 |some q=>some (.tbl q)
 |none=>if b=a then so else none
theorem uU{K:Frag}{a b:Addr}{so:Option HO}{q:Str}(e:mN K b=some q):eB K a so b=some (.tbl q):=by unfold eB;rw[e]
theorem wX{K:Frag}{a:Addr}{so:Option HO}(e:mN K a=none):eB K a so a=so:=by unfold eB;rw[e];exact if_pos rfl
theorem gf{K:Frag}{a b:Addr}{so:Option HO}{u:HO}(e:eB K a so b=some u):(∃q,mN K b=some q∧u=.tbl q)∨(b=a∧so=some u):=by
 unfold eB at e
 split at e
 ·rename_i q h;cases e;exact .inl ⟨q,h,rfl⟩
 ·by_cases hb:b=a
  ·rw[if_pos hb]at e;exact .inr ⟨hb,e⟩
  ·rw[if_neg hb]at e;cases e
section
variable {P:Program} {w:World} {K:Frag} {mg mb:Str→Option Value} {CX:xV} {k:Nat} {fa a:Addr} {fd:FuncData} {x:Str} {sp:Sp} {s₁:Shared} {vs:List Value} {ns:List Int}
theorem AQ (KX:K.In s₁.heap) (hns:s₁.heap.Ns mainGlobals mg) (hb:s₁.heap.Ns builtinsNs mb) (hbb:∀x:Str,x≠"__name__"→mb x=bootBuiltins x) (hlim:s₁.heap.NoLimit) (hg:s₁.gens=#[]) (hbm:∃bm ob,mg "__builtins__"=some (.ref bm)∧bm≠builtinsNs∧s₁.heap.get? bm=some ob∧ob.cls=.type "module"∧ob.dict=some builtinsNs∧ob.data=.plain) (hT:vM K s₁.heap)
  (ha:s₁.heap.get? a=some {cls:=.type "list",data:=.seq vs.toArray}) (hi:IntsAre vs ns) (hl:ns.length≤sizeLine) (hr:Room k callerA)
  (F:∀base:Heap,K.In base→base.Ns mainGlobals mg→FnOk P w K mg base CX k fa fd [x] sp) (hbind:∀(s:Shared) (u:Value),BindsTo s fd ⟨[u],[]⟩ [(x,u)])
  (hsp:∀H:Hp,SqL K H a (ns.map V.int)→sp [.ref a] H (fun v _=>v=.bl true) fun _ _ _=>False)
  (hCX:∀H e s',CX [] H s₁ (fun _ _ _=>False) e s'→False):
  codeAny (model P w) callerA (.call (.ref fa) ⟨[.ref a],[]⟩) (fun r s'=>r=.ok (.ret (.bool true))∧OldK s₁.heap s'.heap∧s'.os=s₁.os∧AllBare s'.gens) s₁:=by
 have rv:=jy hi
 have lenV:=hi.length
 have tabA:mN K a=none:=by
  cases q:mN K a with
  |none=>rfl
  |some z=>
   have e:=(hT a z q).1
   rw[ha]at e
   cases e
 have main:∀so:Option HO,(so=none∨(so=some (.frz {cls:=.type "list",data:=.seq vs.toArray} (.lst (ns.map V.int)))∧K.lookup a=none))→SqL K (eB K a so) a (ns.map V.int)→
   codeAny (model P w) callerA (.call (.ref fa) ⟨[.ref a],[]⟩) (fun r s'=>r=.ok (.ret (.bool true))∧OldK s₁.heap s'.heap∧s'.os=s₁.os∧AllBare s'.gens) s₁:=by
  intro so hso hS
  have hok:HOk P w (eB K a so) s₁.heap:=fun b u e=>by
   rcases gf e with⟨q,e1,rfl⟩ |⟨rfl,e1⟩
   ·exact ObjOk.tbl0 (hT b q e1).1
   ·rcases hso with z |⟨z,_⟩
    ·rw[z]at e1;cases e1
    ·rw[z]at e1;cases e1
     exact⟨ha,by rw[eQ];exact hl,vs,_,rv,ha⟩
  have free:∀{b:Addr} {o:Obj} {es:Array DictEntry} {ep:Nat},s₁.heap.get? b=some o→o.data=.dict es ep→eB K a so b=none:=fun {b o es ep} e d=>by
   cases q:eB K a so b with
   |none=>rfl
   |some u=>
    rcases gf q with⟨z,e1,_⟩ |⟨rfl,_⟩
    ·rw[(hT b z e1).1]at e;cases e;cases d
    ·rw[ha]at e;cases e;cases d
  have nsK:∀{b:Addr} {m:Str→Option Value},s₁.heap.Ns b m→(rP s₁.heap (eB K a so)).Ns b m:=fun {b m} ⟨o,es,ep,e,d,r⟩=>⟨o,es,ep,m9 e (free e d),d,r⟩
  have kin:K.In (rP s₁.heap (eB K a so)):=fun b o e=>m9 (KX b o e) (by
   cases q:eB K a so b with
   |none=>rfl
   |some u=>
    rcases gf q with⟨z,e1,_⟩ |⟨rfl,e1⟩
    ·rw[(hT b z e1).2.2]at e;cases e
    ·rcases hso with z |⟨_,z⟩
     ·rw[z]at e1;cases e1
     ·rw[z]at e;cases e)
  have bmK:∃bm ob,mg "__builtins__"=some (.ref bm)∧bm≠builtinsNs∧(rP s₁.heap (eB K a so)).get? bm=some ob∧ob.cls=.type "module"∧ob.dict=some builtinsNs∧ob.data=.plain:=by
   obtain⟨bm,ob,c1,c2,c3,c4,c5⟩:=hbm
   refine⟨bm,ob,c1,c2,m9 c3 ?_,c4,c5⟩
   cases q:eB K a so bm with
   |none=>rfl
   |some u=>
    rcases gf q with⟨z,e1,_⟩ |⟨rfl,_⟩
    ·rw[(hT bm z e1).1]at c3;cases c3;cases c4
    ·rw[ha]at c3
     cases c3
     injection c4 with c6
     exact absurd c6 (by decide)
  have e0:Env0 P w K mg (rP s₁.heap (eB K a so)) callerA [] s₁ (eB K a so):=
   ⟨rfl,⟨kin,nsK hns,⟨mb,nsK hb,hbb⟩,let ⟨mc,h1,h2⟩:=hlim;⟨mc,nsK h1,h2⟩,bmK⟩,fun b o e=>zW e,Nat.le_of_eq (wf _ _),trivial,fun b hb=>absurd (show b∈([]:List Addr)from hb) (by simp),hok,.of_eq hg,fun b q e=>uU e⟩
  refine codeAny_mono ((F _ kin (nsK hns)).run callerA [] s₁ _ ⟨[.ref a],[]⟩ [.ref a] [.ref a] _ _ hr e0 (hbind s₁ (.ref a)) (.cons rfl .nil) (hsp _ hS)) fun r s' h=>?_
  cases r with
  |error e=>exact(hCX _ e s' h).elim
  |ok fl=>
   cases fl with
   |next=>exact False.elim h
   |brk=>exact False.elim h
   |cont=>exact False.elim h
   |ret u=>
    obtain⟨v,H',os,bare,un,hok',r',q⟩:=h
    have q':v=.bl true:=q
    subst q'
    obtain rfl:u=Value.bool true:=r'
    have nofs:∀b,b∉xG ([]:List Env):=fun b z=>absurd (show b∈([]:List Addr)from z) (by simp)
    have step:∀b o,s₁.heap.get? b=some o→asItWas s₁.heap s'.heap b o∧∃o',s'.heap.get? b=some o':=fun b o e=>by
     cases q:eB K a so b with
     |none=>exact⟨.inl (un.keep b o e q (nofs b) (by simp)),_,un.keep b o e q (nofs b) (by simp)⟩
     |some u=>
      rcases gf q with⟨z,e1,rfl⟩ |⟨rfl,e1⟩
      ·obtain⟨t1,⟨c,t2⟩,_⟩:=hT b z e1
       obtain⟨ps,p1,_⟩:=hok' b _ (un.tbls b z q)
       rw[t1]at e
       cases e
       exact⟨.inr (.inl ⟨(t2.tab t1).isCodeTable,rfl,#[],ps,rfl,by simpa using p1⟩),_,p1⟩
      ·rcases hso with z |⟨z,_⟩
       ·rw[z]at e1;cases e1
       ·rw[z]at e1;cases e1
        have z2:=un.frzs b _ _ q
        obtain⟨e2,_⟩:=hok' b _ z2
        rw[ha]at e;cases e
        exact⟨.inl e2,_,e2⟩
    exact⟨rfl,⟨fun b o e=>(step b o e).1,fun b o e=>(step b o e).2⟩,os,bare⟩
 cases hk:K.lookup a with
 |some o=>
  have e:=KX a o hk
  rw[ha]at e
  cases e
  exact main none (.inl rfl) (.inr ⟨_,vs.toArray,_,hk,rfl,rfl,rfl,by rw[kB,lenV];exact hl,by simpa using rv⟩)
 |none=>exact main _ (.inr ⟨rfl,hk⟩) (.inl (.inr ⟨_,wX tabA⟩))
end
theorem yK{l:OpenLaw}{n k:Nat}{q:Program}{loose:List Str}{XP:(Str→Option Value)→Heap→Prop}{YP:World→Heap→Prop}{d:DefRec}{K:Params→Frag}{CX:World→xV}{sp:World→Sp}{x:Str}
  (hn:l.most=some n) (hn2:n≤sizeLine) (hdf:d.params.defaults=[]) (hr:Room k callerA)
  (hY:∀(w:World) (h:Heap),YP w h→(K w.params).In h∧vM (K w.params) h)
  (F:∀(w:World) (mg:Str→Option Value) (fa:Addr) (h:Heap),(K w.params).In h→h.Ns mainGlobals mg→mg d.name=some (.ref fa)→
   ∃fd:FuncData,(∀(s:Shared) (u:Value),BindsTo s fd ⟨[u],[]⟩ [(x,u)])∧
    ∀base:Heap,(K w.params).In base→base.Ns mainGlobals mg→FnOk l.prog w (K w.params) mg base (CX w) k fa fd [x] (sp w))
  (hsp:∀(w:World) (H:Hp) (a:Addr) (ns:List Int),ns.length≤n→SqL (K w.params) H a (ns.map V.int)→sp w [.ref a] H (fun v _=>v=.bl true) fun _ _ _=>False)
  (hCX:∀(w:World) (H:Hp) (s:Shared) (e:Value) (s':Shared),CX w [] H s (fun _ _ _=>False) e s'→False):
  PySem.W.WalkO q loose XP YP l.row.toRowW d [] (fun f vs=>PySem.call f vs):=by
 refine Att.rX hn hdf fun w s₀ s₁ mg mb fa o pm cd doc a vs ns G Y ho hd hcd hmg hobj hints hlen hg=>?_
 obtain⟨KX,KT⟩:=hY w _ Y
 obtain⟨fd,hb,hF⟩:=F w mg fa _ KX G.T.g hmg
 exact AQ KX G.T.g G.T.b G.T.builtins G.T.nolimit hg G.T.bmain KT hobj hints (jK hlen hn2) hr hF hb (fun H hS=>hsp w H a ns hlen hS) fun H e s'=>hCX w H s₁ e s'
end L2
namespace NH
def FQ:Nat→Nat→Nat
 |_,0=>1
 | 0,_+1=>0
 |n+1,k+1=>FQ n (k+1)+FQ n k
def FR:Nat→Nat→Int
 |_,0=>1
 | 0,_+1=>0
 |m+1,k+1=>FR m (k+1) - FR (m+1) k
def ch(n:Int)(k:Nat):Int:=match n with
 |.ofNat n=>(FQ n k:Int)
 |.negSucc m=>FR (m+1) k
def ff(n:Int):Nat→Int
 | 0=>1
 |k+1=>ff n k*(n - k)
section
variable {α:Type}
def conv(f g:List α→Int):List α→Int
 |[]=>f []*g []
 |a::w=>f []*g (a::w)+conv (fun u=>f (a::u)) g w
end
section
variable {α:Type} [DecidableEq α]
def Gc(p:α×Int)(w:List α):Int:=if w.all (fun b=>decide (b=p.1))then ch p.2 w.length else 0
def vs(j:Nat)(m n:Int):Nat→Int
 | 0=>ch m j
 |k+1=>ch m j*ch n (k+1)+vs (j+1) m n k
def Unlike:List α→Prop
 |[]=>True
 |[_]=>True
 |a::b::w=>a≠b∧Unlike (b::w)
theorem Unlike.tail{a:α}{w:List α}(h:Unlike (a::w)):Unlike w:=by
 cases w with
 |nil=>trivial
 |cons b w=>exact h.2
end
end NH
namespace NH
variable {α:Type} [DecidableEq α]
end NH
namespace NH
section
variable {α:Type} [DecidableEq α]
def fj(P:α→Bool)(c:List (α×Int)):List (α×Int):=c.filter fun p=>P p.1
theorem yL(P:α→Bool)(r:List (α×Int))(h:Red r)(p:α×Int):short (fj P (stp r p))=if P p.1 then stp (short (fj P r)) p else short (fj P r):=by
 cases r with
 |nil=>
  by_cases k:p.2=0
  ·obtain⟨n,a⟩:=p
   simp only at k
   subst k
   simp[stp,fj,short,stk]
  ·by_cases hp:P p.1=true <;> simp[stp,fj,short,stk,k,hp]
 |cons x r=>
  rw[iw]
  by_cases e:x.1=p.1
  ·have hx:fj P (x::r)=if P p.1 then x::fj P r else fj P r:=by
    unfold fj
    rw[List.filter_cons,e]
   by_cases hp:P p.1=true
   ·rw[hx,if_pos hp,if_pos hp,gL]
    have s:=At (ix (fj P r)) p.1 x.2 p.2
    have ex:(p.1,x.2)=x:=by rw[←e]
    rw[ex]at s
    rw[s]
    unfold xH
    rw[if_pos e]
    by_cases z:x.2+p.2=0
    ·rw[if_pos z,z,rY (ix _)]
     rfl
    ·rw[if_neg z]
     show short (fj P ((p.1,x.2+p.2)::r))=_
     unfold fj
     rw[List.filter_cons,if_pos hp,gL]
   ·rw[hx,if_neg hp,if_neg hp]
    unfold xH
    rw[if_pos e]
    by_cases z:x.2+p.2=0
    ·rw[if_pos z];rfl
    ·rw[if_neg z]
     show short (fj P ((p.1,x.2+p.2)::r))=_
     unfold fj
     rw[List.filter_cons,if_neg hp]
  ·unfold xH
   rw[if_neg e]
   by_cases k:p.2=0
   ·rw[if_pos k]
    by_cases hp:P p.1=true
    ·rw[if_pos hp]
     obtain⟨n,a⟩:=p
     simp only at k
     subst k
     rw[rY (ix _)]
     rfl
    ·rw[if_neg hp];rfl
   ·rw[if_neg k]
    show short (fj P (p::x::r))=_
    by_cases hp:P p.1=true
    ·rw[if_pos hp,←gL]
     unfold fj
     rw[List.filter_cons,if_pos hp]
    ·rw[if_neg hp]
     unfold fj
     rw[List.filter_cons,if_neg hp]
theorem iL(P:α→Bool):∀c:List (α×Int),short (fj P (short c))=short (fj P c)
 |[]=>rfl
 |p::c=>by
  rw[gL,yL P _ (ix c),iL P c]
  by_cases hp:P p.1=true
  ·rw[if_pos hp,←gL]
   unfold fj
   rw[List.filter_cons,if_pos hp]
  ·rw[if_neg hp]
   unfold fj
   rw[List.filter_cons,if_neg hp]
theorem yM(P:α→Bool){c d:List (α×Int)}(h:short c=short d):short (fj P c)=short (fj P d):=by rw[←iL P c,h,iL]
theorem wY(P Q:α→Bool)(c:List (α×Int)):fj P (fj Q c)=fj (fun n=>P n&&Q n) c:=by
 unfold fj
 rw[List.filter_filter]
theorem nT(P Q:α→Bool){c:List (α×Int)}(h:short (fj Q c)=[]):short (fj (fun n=>P n&&Q n) c)=[]:=by
 rw[←wY,yM P (h.trans (by rfl:([]:List (α×Int))=short []))]
 rfl
end
end NH
namespace NH
variable {α:Type} [DecidableEq α]
end NH
namespace Nh
open PySem L2 PL
def CordOk(c:List Pc):Prop:=∀p∈c,p.1 < 128∧p.2.natAbs < 2 ^ 100
theorem CordOk.n{c:List Pc}(h:CordOk c):NailsOk c:=fun p hp=>(h p hp).1
theorem CordOk.append{c d:List Pc}(h:CordOk c)(h':CordOk d):CordOk (c++d):=fun p hp=>(Zan.mp hp).elim (h p) (h' p)
theorem CordOk.contr{c:List Pc}(h:CordOk c):CordOk (NH.contr c):=fun p hp=>by
 obtain⟨q,hq,e⟩:=Zba.mp hp
 subst e
 have:=h q (List.mem_reverse.mp hq)
 exact⟨this.1,by simpa using this.2⟩
theorem CordOk.cutL{c:List Pc}(h:CordOk c)(lo hi:Option Int):CordOk (cutL c lo hi):=fun p hp=>h p (kK hp)
end Nh
namespace NH
def dQ(w:List Nat):Nat→Nat
 | 0=>0
 |n+1=>dQ w n+if 97+n∈w then 2 ^ n else 0
theorem pK(w:List Nat):∀n,dQ w n < 2 ^ n
 | 0=>by simp[dQ]
 |n+1=>by
  have:=pK w n
  rw[dQ,Nat.pow_succ]
  split <;> omega
theorem fL(w:List Nat):∀n i,(dQ w n).testBit i=(decide (i < n)&&decide (97+i∈w))
 | 0,i=>by simp[dQ]
 |n+1,i=>by
  have ih:=fL w n i
  have lt:=pK w n
  rw[dQ]
  by_cases h:97+n∈w
  ·rw[if_pos h,Nat.add_comm]
   by_cases e:i=n
   ·subst e
    rw[Nat.testBit_two_pow_add_eq,ih]
    simp[h]
   ·by_cases l:i < n
    ·rw[Nat.testBit_two_pow_add_gt l,ih]
     simp[l,show i < n+1 by omega]
    ·have big:2 ^ n+dQ w n < 2 ^ i:=by
      have:2 ^ (n+1)≤2 ^ i:=Nat.pow_le_pow_right (by decide) (by omega)
      rw[Nat.pow_succ]at this
      omega
     rw[Nat.testBit_lt_two_pow big]
     simp[show ¬i < n+1 by omega]
  ·rw[if_neg h,Nat.add_zero,ih]
   by_cases e:i=n
   ·subst e;simp[h]
   ·by_cases l:i < n
    ·simp[l,show i < n+1 by omega]
    ·simp[l,show ¬i < n+1 by omega]
def bX(w:List Nat):Nat:=dQ w 26
def nU(w:List Nat):Prop:=∀a∈w,97≤a∧a < 97+26
theorem wZ{a b:List Nat}(ha:nU a):bX a &&& bX b=bX a↔∀x∈a,x∈b:=by
 unfold bX
 constructor
 ·intro h x hx
  have l:=ha x hx
  have:=congrArg (fun n=>n.testBit (x - 97)) h
  simp only[Nat.testBit_and,fL,show 97+(x - 97)=x by omega,show x - 97 < 26 by omega,hx]at this
  simpa using this
 ·intro h
  refine Nat.eq_of_testBit_eq fun i=>?_
  rw[Nat.testBit_and,fL,fL]
  by_cases m:97+i∈a
  ·simp[m,h _ m]
  ·simp[m]
theorem w6{a b:List Nat}(ha:nU a):bX a &&& bX b=0↔∀x∈a,x∉b:=by
 unfold bX
 constructor
 ·intro h x hx hb
  have l:=ha x hx
  have:=congrArg (fun n=>n.testBit (x - 97)) h
  simp only[Nat.testBit_and,fL,show 97+(x - 97)=x by omega,show x - 97 < 26 by omega,hx,hb]at this
  simp at this
 ·intro h
  refine Nat.eq_of_testBit_eq fun i=>?_
  rw[Nat.testBit_and,fL,fL,Nat.zero_testBit]
  by_cases m:97+i∈a
  ·simp[m,h _ m]
  ·simp[m]
end NH
namespace NhLS
set_option autoImplicit false
open PySem PyProof.Rows
def AR:Bool→Keyed→Array Keyed→Nat→Nat→Nat→StateT SortSt Sem (Option Nat):=sortPriv% PySem.Builtin.gallop
def yN:Array Keyed→Array Keyed→StateT SortSt Sem (Array Keyed):=sortPriv% PySem.Builtin.mergeLo
def yO:Array Keyed→Array Keyed→StateT SortSt Sem (Array Keyed):=sortPriv% PySem.Builtin.mergeHi
def AS:Keyed:=(Value.none,Value.none)
def at'(a:Array Keyed)(i:Nat):Keyed:=a.getD i AS
theorem EK{a:Array Keyed}{i:Nat}(h:i < a.size):a[i]? =some (at' a i):=by simp[at',Array.getD,h]
structure Cmp (prog:Program) (w:World) (A:Around) (s:Shared) (κ:SortKind) (O:KeyOrd) (key:Keyed→O.α) (dom:Keyed→Prop):Prop where
 ask:∀(E:Value→Shared→Prop) (x y:Keyed) (Q:Bool→Shared→Prop),dom x→dom y→Q (O.blt (key x) (key y)) s→wpAny (model prog w) A (keyLt' κ x.1 y.1) Q E s
section
variable {prog:Program} {w:World} {A:Around} {E:Value→Shared→Prop} {s:Shared} {κ:SortKind} {O:KeyOrd} {key:Keyed→O.α} {dom:Keyed→Prop} {st:SortSt}
theorem yP(C:Cmp prog w A s κ O key dom){x y:Keyed}{Q:Option Bool→SortSt→Prop}(hk:kindOf st=κ)(dx:dom x)(dy:dom y)(h:Q (some (O.blt (key x) (key y))) st):wpS (model prog w) A E s (lt' x y) Q st:=by
 rw[lt'_eq]
 refine wpS_bind (wpS_get ?_)
 rw[hk]
 refine wpS_bind (wpS_lift (wpAny_attempt (C.ask _ _ _ _ dx dy ⟨rfl,?_⟩)))
 exact wpS_pure h
theorem gT{arr:Array Keyed}{i:Nat}{Q:Keyed→SortSt→Prop}(hi:i < arr.size)(h:Q (at' arr i) st):wpS (model prog w) A E s (elem' arr i) Q st:=by
 rw[elem'_eq,EK hi]
 exact wpS_pure h
def g7(O:KeyOrd)(key:Keyed→O.α)(left:Bool)(k:Keyed)(arr:Array Keyed)(base i:Nat):Bool:=if left then O.blt (key (at' arr (base+i))) (key k)else !O.blt (key k) (key (at' arr (base+i)))
theorem iB(C:Cmp prog w A s κ O key dom){left:Bool}{k:Keyed}{arr:Array Keyed}{base n hint:Nat}{Q:Option Nat→SortSt→Prop}(hk:kindOf st=κ)(hh:hint < n)(hb:base+n≤arr.size)(dk:dom k)(da:∀i,i < arr.size→dom (at' arr i))
  (mono:∀i j,i < j→j < n→g7 O key left k arr base j=true→g7 O key left k arr base i=true)
  (h:∀m,m≤n→(∀i,i < m→g7 O key left k arr base i=true)→(∀i,m≤i→i < n→g7 O key left k arr base i=false)→Q (some m) st):wpS (model prog w) A E s (AR left k arr base n hint) Q st:=by
 have bey:∀{i:Nat} {Q':Option Bool→SortSt→Prop},i < n→Q' (some (g7 O key left k arr base i)) st→wpS (model prog w) A E s (elem' arr (base+i) >>= fun x=>if left=true then lt' x k else (lt' k x >>= fun r=>pure (r.map (!·)))) Q' st:=by
  intro i Q' hi hq
  refine wpS_bind (gT (by lia) ?_)
  have dx:=da (base+i) (by lia)
  cases left with
  |true=>exact yP C hk dx dk hq
  |false=>exact wpS_bind (yP C hk dk dx (wpS_pure hq))
 refine wpS_bind (bey hh ?_)
 have up:∀i j,i≤j→j < n→g7 O key left k arr base j=true→g7 O key left k arr base i=true:=fun i j hij hj e=>by
  by_cases z:i=j
  ·rw[z];exact e
  ·exact mono i j (by exact Nat.lt_of_le_of_ne ‹_› ‹_›) hj e
 have dn:∀i j,i≤j→j < n→g7 O key left k arr base i=false→g7 O key left k arr base j=false:=fun i j hij hj e=>by
  cases z:g7 O key left k arr base j with
  |false=>rfl
  |true=>rw[up i j hij hj z]at e;cases e
 have fin:∀{body:Nat→Option (Option Nat)×Nat×Nat→StateT SortSt Sem (ForInStep (Option (Option Nat)×Nat×Nat))} {cont:Option (Option Nat)×Nat×Nat→StateT SortSt Sem (Option Nat)},
   (∀lo,Q (some lo) st→wpS (model prog w) A E s (cont (none,lo,lo)) Q st)→
   (∀x lo hi (R:ForInStep (Option (Option Nat)×Nat×Nat)→SortSt→Prop),lo≥hi→R (.done (none,lo,hi)) st→wpS (model prog w) A E s (body x (none,lo,hi)) R st)→
   (∀x lo hi (R:ForInStep (Option (Option Nat)×Nat×Nat)→SortSt→Prop),lo < hi→hi≤n→R (.yield (if g7 O key left k arr base (lo+(hi - lo) / 2)=true then (none,lo+(hi - lo) / 2+1,hi)else (none,lo,lo+(hi - lo) / 2))) st→wpS (model prog w) A E s (body x (none,lo,hi)) R st)→
   ∀lo hi,lo≤hi→hi≤n→(∀i,i < lo→g7 O key left k arr base i=true)→(∀i,hi≤i→i < n→g7 O key left k arr base i=false)→
   wpS (model prog w) A E s (forIn [0:n] (none,lo,hi) body >>= cont) Q st:=by
  intro body cont b3 b1 b2 lo hi f1 f2 f3 f4
  refine wpS_bind (wpS_mono (wpS_forRange (I:=fun x c st'=>st'=st∧∃lo hi,c=(none,lo,hi)∧lo≤hi∧hi≤n∧hi+x≤n+lo∧(∀i,i < lo→g7 O key left k arr base i=true)∧(∀i,hi≤i→i < n→g7 O key left k arr base i=false))
   (Q:=fun c st'=>st'=st∧∃lo,c=(none,lo,lo)∧lo≤n∧(∀i,i < lo→g7 O key left k arr base i=true)∧(∀i,lo≤i→i < n→g7 O key left k arr base i=false)) ?s1 ?s2 ⟨rfl,lo,hi,rfl,f1,f2,by exact Nat.le_add_right_of_le ‹_›,f3,f4⟩) ?s3)
  case s2=>
   rintro c st' ⟨rfl,l,o,rfl,h1,h2,h3,h4,h5⟩
   have:l=o:=by lia
   subst this
   exact⟨rfl,l,rfl,h2,h4,h5⟩
  case s3=>
   rintro c st' ⟨rfl,l,rfl,h2,h4,h5⟩
   exact b3 l (h l h2 h4 h5)
  case s1=>
   rintro x c st' - hx ⟨rfl,l,o,rfl,h1,h2,h3,h4,h5⟩
   by_cases z:l≥o
   ·have:l=o:=by exact Nat.le_antisymm ‹_› ‹_›
    subst this
    exact b1 x l l _ z ⟨rfl,l,rfl,h2,h4,h5⟩
   ·refine b2 x l o _ (by exact Nat.lt_of_not_le ‹_›) h2 ?_
    cases e:g7 O key left k arr base (l+(o - l) / 2)with
    |true=>exact⟨rfl,_,_,rfl,by lia,by assumption,by lia,fun i hi=>up i _ (by exact Nat.le_of_lt_succ ‹_›) (by lia) e,h5⟩
    |false=>exact⟨rfl,_,_,rfl,by exact ov _ _,by lia,by lia,h4,fun i hi hn=>dn _ i hi hn e⟩
 cases eh:g7 O key left k arr base hint with
 |true=>
  dsimp only
  rw[if_pos rfl]
  refine wpS_bind (wpS_mono (wpS_forRange (I:=fun x c st'=>st'=st∧∃l o,c=(none,l,o)∧l < o∧x < o∧hint+l < n∧g7 O key left k arr base (hint+l)=true)
   (Q:=fun c st'=>st'=st∧∃l o,c=(none,l,o)∧l < o∧hint+l < n∧g7 O key left k arr base (hint+l)=true∧(n - hint≤o∨g7 O key left k arr base (hint+o)=false)) ?s1 ?s2 ⟨rfl,0,1,rfl,by exact Nat.lt_succ_self _,by exact Nat.lt_succ_self _,by assumption,eh⟩) ?s3)
  case s2=>
   rintro c st' ⟨rfl,l,o,rfl,h1,h2,h3,h4⟩
   exact⟨rfl,l,o,rfl,h1,h3,h4,.inl (by lia)⟩
  case s1=>
   rintro x c st' - hx ⟨rfl,l,o,rfl,h1,h2,h3,h4⟩
   dsimp only
   by_cases z:o≥n - hint
   ·rw[if_pos z]
    exact wpS_pure ⟨rfl,l,o,rfl,h1,h3,h4,.inl z⟩
   ·rw[if_neg z]
    refine wpS_bind (bey (by lia) ?_)
    cases e:g7 O key left k arr base (hint+o)with
    |true=>exact wpS_pure ⟨rfl,o,2*o+1,rfl,by lia,by lia,by lia,e⟩
    |false=>exact wpS_pure ⟨rfl,l,o,rfl,h1,h3,h4,.inr e⟩
  case s3=>
   rintro c st' ⟨rfl,l,o,rfl,h1,h3,h4,h5⟩
   dsimp only
   have f1:hint+l+1≤hint+min o (n - hint):=by lia
   have f2:hint+min o (n - hint)≤n:=by lia
   have f3:∀i,i < hint+l+1→g7 O key left k arr base i=true:=fun i hi=>up i _ (by exact Nat.le_of_lt_succ ‹_›) h3 h4
   have f4:∀i,hint+min o (n - hint)≤i→i < n→g7 O key left k arr base i=false:=fun i hi hn=>by
    rcases h5 with h5 |h5
    ·lia
    ·exact dn (hint+o) i (by lia) hn h5
   revert f1 f2 f3 f4
   generalize hint+l+1=lo
   generalize hint+min o (n - hint)=hi
   refine fin (fun lo hq=>wpS_pure hq) (fun x lo hi R hz hR=>?_) (fun x lo hi R hz hn hR=>?_) lo hi
   ·dsimp only
    rw[if_pos hz]
    exact wpS_pure hR
   ·dsimp only
    rw[if_neg (by exact Nat.not_le.mpr ‹_›)]
    refine wpS_bind (bey (by lia) ?_)
    cases e:g7 O key left k arr base (lo+(hi - lo) / 2)with
    |true=>rw[e]at hR;exact wpS_pure hR
    |false=>rw[e]at hR;exact wpS_pure hR
 |false=>
  dsimp only
  rw[if_neg (by simp)]
  refine wpS_bind (wpS_mono (wpS_forRange (I:=fun x c st'=>st'=st∧∃l o,c=(none,l,o)∧l < o∧x < o∧l≤hint∧g7 O key left k arr base (hint - l)=false)
   (Q:=fun c st'=>st'=st∧∃l o,c=(none,l,o)∧l < o∧l≤hint∧g7 O key left k arr base (hint - l)=false∧(hint+1≤o∨g7 O key left k arr base (hint - o)=true)) ?s1 ?s2 ⟨rfl,0,1,rfl,by exact Nat.lt_succ_self _,by exact Nat.lt_succ_self _,by exact Nat.zero_le _,eh⟩) ?s3)
  case s2=>
   rintro c st' ⟨rfl,l,o,rfl,h1,h2,h3,h4⟩
   exact⟨rfl,l,o,rfl,h1,h3,h4,.inl (by lia)⟩
  case s1=>
   rintro x c st' - hx ⟨rfl,l,o,rfl,h1,h2,h3,h4⟩
   dsimp only
   by_cases z:o≥hint+1
   ·rw[if_pos z]
    exact wpS_pure ⟨rfl,l,o,rfl,h1,h3,h4,.inl z⟩
   ·rw[if_neg z]
    refine wpS_bind (bey (by exact vm (Nat.sub_le _ _) ‹_›) ?_)
    cases e:g7 O key left k arr base (hint - o)with
    |false=>exact wpS_pure ⟨rfl,o,2*o+1,rfl,by lia,by lia,by exact Nat.le_of_not_lt ‹_›,e⟩
    |true=>exact wpS_pure ⟨rfl,l,o,rfl,h1,h3,h4,.inr e⟩
  case s3=>
   rintro c st' ⟨rfl,l,o,rfl,h1,h3,h4,h5⟩
   dsimp only
   have f1:hint+1 - min o (hint+1)≤hint - l:=by omega
   have f2:hint - l≤n:=by lia
   have f3:∀i,i < hint+1 - min o (hint+1)→g7 O key left k arr base i=true:=fun i hi=>by
    rcases h5 with h5 |h5
    ·lia
    ·exact up i (hint - o) (by lia) (by exact vm (Nat.sub_le _ _) ‹_›) h5
   have f4:∀i,hint - l≤i→i < n→g7 O key left k arr base i=false:=fun i hi hn=>dn _ i hi hn h4
   revert f1 f2 f3 f4
   generalize hint+1 - min o (hint+1)=lo
   generalize hint - l=hi
   refine fin (fun lo hq=>wpS_pure hq) (fun x lo hi R hz hR=>?_) (fun x lo hi R hz hn hR=>?_) lo hi
   ·dsimp only
    rw[if_pos hz]
    exact wpS_pure hR
   ·dsimp only
    rw[if_neg (by exact Nat.not_le.mpr ‹_›)]
    refine wpS_bind (bey (by lia) ?_)
    cases e:g7 O key left k arr base (lo+(hi - lo) / 2)with
    |true=>rw[e]at hR;exact wpS_pure hR
    |false=>rw[e]at hR;exact wpS_pure hR
end
end NhLS
namespace NhLS
set_option autoImplicit false
open PySem PyProof.Rows
def Le(O:KeyOrd)(key:Keyed→O.α)(x y:Keyed):Prop:=O.blt (key y) (key x)=false
structure G (le:Keyed→Keyed→Prop) (T out ra rb:List Keyed):Prop where
 perm:(out++(ra++rb)).Perm T
 pa:(out++ra).Pairwise le
 pb:(out++rb).Pairwise le
def il(le:Keyed→Keyed→Prop)(T l:List Keyed):Prop:=l.Perm T∧l.Pairwise le
section
variable {le:Keyed→Keyed→Prop} {T out ra rb p:List Keyed}
theorem G.takeA(g:G le T out (p++ra) rb)(h:∀x∈p,∀y∈rb,le x y):G le T (out++p) ra rb where
 perm:=by have:=g.perm;simpa[ou]using this
 pa:=by have:=g.pa;simpa[ou]using this
 pb:=by
  have h1:=g.pa
  have h2:=g.pb
  simp only[List.pairwise_append,Zan]at h1 h2 ⊢
  refine⟨⟨h1.1,h1.2.1.1,fun x hx y hy=>h1.2.2 x hx y (.inl hy)⟩,h2.2.1,fun x hx y hy=>?_⟩
  rcases hx with hx |hx
  ·exact h2.2.2 x hx y hy
  ·exact h x hx y hy
theorem G.takeB(g:G le T out ra (p++rb))(h:∀x∈p,∀y∈ra,le x y):G le T (out++p) ra rb where
 perm:=by
  refine List.Perm.trans ?_ g.perm
  rw[ou]
  refine List.Perm.append_left _ ?_
  rw[←ou,←ou]
  exact List.Perm.append_right _ List.perm_append_comm
 pb:=by have:=g.pb;simpa[ou]using this
 pa:=by
  have h1:=g.pa
  have h2:=g.pb
  simp only[List.pairwise_append,Zan]at h1 h2 ⊢
  refine⟨⟨h2.1,h2.2.1.1,fun x hx y hy=>h2.2.2 x hx y (.inl hy)⟩,h1.2.1,fun x hx y hy=>?_⟩
  rcases hx with hx |hx
  ·exact h1.2.2 x hx y hy
  ·exact h x hx y hy
theorem G.endA(g:G le T out ra []):il le T (out++ra):=⟨by have:=g.perm;simpa using this,g.pa⟩
theorem G.endB(g:G le T out [] rb):il le T (out++rb):=⟨by have:=g.perm;simpa using this,g.pb⟩
end
section
variable {O:KeyOrd} {key:Keyed→O.α} {a b:Array Keyed} {T:List Keyed} {out:Array Keyed} {i j ia ib k:Nat} {x y z:Keyed}
theorem Le.refl(x:Keyed):Le O key x x:=O.irrefl _
theorem Le.trans(h1:Le O key x y)(h2:Le O key y z):Le O key x z:=KeyOrd.kle_trans (O:=O) (a:=key x) (b:=key y) (c:=key z) h1 h2
theorem Le.of(h:O.blt (key x) (key y)=true):Le O key x y:=KeyOrd.klt_asymm (O:=O) h
theorem iC(h:i < a.toList.length):a.toList[i]=at' a i:=by
 have h':i < a.size:=by simpa using h
 simp[at',Array.getD,h']
theorem qR(h:y∈a.toList.drop i):∃j,i≤j∧j < a.size∧y=at' a j:=by
 obtain⟨j,hj,e⟩:=List.mem_iff_getElem.mp h
 rw[List.length_drop,Zb]at hj
 refine⟨i+j,by exact ov _ _,by exact Nat.add_lt_of_lt_sub' ‹_›,?_⟩
 rw[List.getElem_drop]at e
 rw[←e,iC]
theorem ke(h:i < a.size):at' a i∈a.toList:=by
 rw[←iC (by simpa using h)]
 exact List.getElem_mem _
theorem pL(pa:a.toList.Pairwise (Le O key))(h:i≤j)(hj:j < a.size):Le O key (at' a i) (at' a j):=by
 by_cases e:i=j
 ·rw[e];exact Le.refl _
 ·have:=List.pairwise_iff_getElem.mp pa i j (by simp;exact vm ‹_› ‹_›) (by simpa using hj) (by exact Nat.lt_of_le_of_ne ‹_› ‹_›)
  rw[iC,iC]at this
  exact this
theorem sW(pa:a.toList.Pairwise (Le O key))(h:y∈a.toList.drop i):Le O key (at' a i) y:=by
 obtain⟨j,h1,h2,rfl⟩:=qR h
 exact pL pa h1 h2
theorem vN(h:i < a.size):a.toList.drop i=[at' a i]++a.toList.drop (i+1):=by
 rw[List.drop_eq_getElem_cons (by simpa using h),iC]
 rfl
theorem vO(k:Nat):a.toList.drop i=(a.extract i (i+k)).toList++a.toList.drop (i+k):=by
 rw[Array.toList_extract,List.extract_eq_take_drop,xF,←List.drop_drop,List.take_append_drop]
theorem lU:(a.extract i).toList=a.toList.drop i:=by
 rw[Array.toList_extract,List.extract_eq_take_drop]
 exact List.take_of_length_le (by simp)
theorem qS(h:a.size≤i):a.toList.drop i=[]:=List.drop_eq_nil_of_le (by simpa using h)
theorem yQ(h:x∈(a.extract i (i+k)).toList):∃j,j < k∧i+j < a.size∧x=at' a (i+j):=by
 rw[Array.toList_extract,List.extract_eq_take_drop,xF]at h
 obtain⟨j,hj,e⟩:=List.mem_iff_getElem.mp h
 rw[List.length_take,List.length_drop,Zb]at hj
 refine⟨j,by lia,by lia,?_⟩
 rw[List.getElem_take,List.getElem_drop]at e
 rw[←e,iC]
theorem G.pushA(g:G (Le O key) T out.toList (a.toList.drop ia) (b.toList.drop ib))(h:ia < a.size)(hl:∀y∈b.toList.drop ib,Le O key (at' a ia) y):G (Le O key) T (out.push (at' a ia)).toList (a.toList.drop (ia+1)) (b.toList.drop ib):=by
 rw[vN h]at g
 rw[Array.toList_push]
 exact g.takeA fun x hx y hy=>by rw[Zaf.mp hx];exact hl y hy
theorem G.pushB(g:G (Le O key) T out.toList (a.toList.drop ia) (b.toList.drop ib))(h:ib < b.size)(hl:∀y∈a.toList.drop ia,Le O key (at' b ib) y):G (Le O key) T (out.push (at' b ib)).toList (a.toList.drop ia) (b.toList.drop (ib+1)):=by
 rw[vN h]at g
 rw[Array.toList_push]
 exact g.takeB fun x hx y hy=>by rw[Zaf.mp hx];exact hl y hy
theorem G.blkA(g:G (Le O key) T out.toList (a.toList.drop ia) (b.toList.drop ib))(k:Nat)(hl:∀j,j < k→ia+j < a.size→∀y∈b.toList.drop ib,Le O key (at' a (ia+j)) y):G (Le O key) T (out++a.extract ia (ia+k)).toList (a.toList.drop (ia+k)) (b.toList.drop ib):=by
 rw[vO k]at g
 rw[rN]
 exact g.takeA fun x hx y hy=>by obtain⟨j,h1,h2,rfl⟩:=yQ hx;exact hl j h1 h2 y hy
theorem G.blkB(g:G (Le O key) T out.toList (a.toList.drop ia) (b.toList.drop ib))(k:Nat)(hl:∀j,j < k→ib+j < b.size→∀y∈a.toList.drop ia,Le O key (at' b (ib+j)) y):G (Le O key) T (out++b.extract ib (ib+k)).toList (a.toList.drop ia) (b.toList.drop (ib+k)):=by
 rw[vO (a:=b) k]at g
 rw[rN]
 exact g.takeB fun x hx y hy=>by obtain⟨j,h1,h2,rfl⟩:=yQ hx;exact hl j h1 h2 y hy
theorem G.doneB(g:G (Le O key) T out.toList (a.toList.drop ia) (b.toList.drop ib))(h:b.size≤ib):il (Le O key) T (out++a.extract ia++b.extract ib).toList:=by
 rw[rN,rN,lU,lU,qS h,List.append_nil]
 rw[qS h]at g
 exact g.endA
theorem G.doneA(g:G (Le O key) T out.toList (a.toList.drop ia) (b.toList.drop ib))(h:a.size≤ia):il (Le O key) T (out++a.extract ia++b.extract ib).toList:=by
 rw[rN,rN,lU,lU,qS h,List.append_nil]
 rw[qS h]at g
 exact g.endB
theorem G.lastA(g:G (Le O key) T out.toList (a.toList.drop ia) (b.toList.drop ib))(h:ia+1=a.size)(h1:∀y∈b.toList,Le O key y (at' a (a.size - 1))):il (Le O key) T (out++b.extract ib++a.extract ia).toList:=by
 rw[rN,rN,lU,lU]
 have g':G (Le O key) T out.toList (a.toList.drop ia) (b.toList.drop ib++[]):=by rw[List.append_nil];exact g
 refine(g'.takeB fun x hx y hy=>?_).endA
 obtain⟨j,q1,q2,rfl⟩:=qR hy
 rw[show j=a.size - 1 by lia]
 exact h1 x (List.mem_of_mem_drop hx)
end
def SS(st st':SortSt):Prop:=∃g,st'=SortSt.mk' (kindOf st) (arrOf st) (pendingOf st) g (failedOf st)
theorem SS.refl(st:SortSt):SS st st:=⟨gallopOf st,rfl⟩
theorem SS.kind{st st':SortSt}(h:SS st st'):kindOf st'=kindOf st:=by obtain⟨g,rfl⟩:=h;rfl
section
variable {prog:Program} {w:World} {A:Around} {E:Value→Shared→Prop} {s:Shared} {κ:SortKind} {O:KeyOrd} {key:Keyed→O.α} {dom:Keyed→Prop} {st:SortSt}
def EL:Nat→StateT SortSt Sem Unit:=sortPriv% PySem.Builtin.setMinGallop
theorem qT{st':SortSt}{g:Nat}{Q:Unit→SortSt→Prop}(hs:SS st st')(h:∀st2,SS st st2→Q () st2):wpS (model prog w) A E s (EL g) Q st':=
 wpS_modify (h _ (by obtain⟨g',rfl⟩:=hs;exact⟨g,rfl⟩))
theorem bD{α:Type}{c:Prop}[Decidable c]{x y:StateT SortSt Sem α}{Q:α→SortSt→Prop}(hc:c)(h:wpS (model prog w) A E s x Q st):wpS (model prog w) A E s (if c then x else y) Q st:=by rw[if_pos hc];exact h
theorem bw{α:Type}{c:Prop}[Decidable c]{x y:StateT SortSt Sem α}{Q:α→SortSt→Prop}(hc:¬c)(h:wpS (model prog w) A E s y Q st):wpS (model prog w) A E s (if c then x else y) Q st:=by rw[if_neg hc];exact h
theorem Dh{α:Type}{m:StateT SortSt Sem α}{Q:α→SortSt→Prop}(h:∀R,R=Q→wpS (model prog w) A E s m R st):wpS (model prog w) A E s m Q st:=h Q rfl
theorem EM{α:Type}{c:Prop}[Decidable c](f:Nat→StateT SortSt Sem α){x y:Nat}{Q:α→SortSt→Prop}(h:∀m,wpS (model prog w) A E s (f m) Q st):wpS (model prog w) A E s (if c then f x else f y) Q st:=by
 split <;> exact h _
theorem w_(C:Cmp prog w A s κ O key dom){a b:Array Keyed}{Q:Array Keyed→SortSt→Prop}(hk:kindOf st=κ)(da:∀x∈a.toList,dom x)(db:∀x∈b.toList,dom x)(ha:0 < a.size)(hb:0 < b.size)
  (pa:a.toList.Pairwise (Le O key)) (pb:b.toList.Pairwise (Le O key)) (h0:O.blt (key (at' b 0)) (key (at' a 0))=true) (h1:∀y∈b.toList,Le O key y (at' a (a.size - 1)))
  (h:∀r st',SS st st'→il (Le O key) (a.toList++b.toList) r.toList→Q r st'):wpS (model prog w) A E s (yN a b) Q st:=by
 refine wpS_bind (wpS_lift (wpAny_rule ⟨rfl,?_⟩))
 refine wpS_bind (gT hb ?_)
 obtain⟨T,hT⟩:∃T,T=a.toList++b.toList:=⟨_,rfl⟩
 rw[←hT]at h
 have g0:G (Le O key) T (#[at' b 0]:Array Keyed).toList (a.toList.drop 0) (b.toList.drop 1):=by
  have q:G (Le O key) T (#[]:Array Keyed).toList (a.toList.drop 0) (b.toList.drop 0):=⟨by simp[hT],by simpa using pa,by simpa using pb⟩
  exact q.pushB hb fun y hy=>(Le.of h0).trans (sW pa hy)
 have dA:∀i,i < a.size→dom (at' a i):=fun i hi=>da _ (ke hi)
 have dB:∀i,i < b.size→dom (at' b i):=fun i hi=>db _ (ke hi)
 extract_lets o0 i0 i1
 by_cases e1:(1 == b.size)=true
 ·refine bD e1 ?_
  exact wpS_pure (h _ st (SS.refl _) (g0.doneB (by simp at e1;exact Nat.le_of_eq (Eq.symm ‹_›))))
 refine bw e1 ?_
 by_cases e2:(0+1 == a.size)=true
 ·refine bD e2 ?_
  exact wpS_pure (h _ st (SS.refl _) (g0.lastA (by simpa using e2) h1))
 refine bw e2 ?_
 refine wpS_bind (wpS_get ?_)
 refine wpS_bind (wpS_mono (wpS_forRange (I:=fun x c st'=>SS st st'∧∃out ia ib mg,c=(none,out,ia,ib,mg)∧ia+1 < a.size∧ib < b.size∧x < ia+ib∧G (Le O key) T out.toList (a.toList.drop ia) (b.toList.drop ib))
  (Q:=fun c st'=>SS st st'∧∃r o,c=(some r,o)∧il (Le O key) T r.toList) ?s1 ?s2 ⟨SS.refl _,_,0,1,_,rfl,by simp at e2;exact Nat.lt_of_le_of_ne ‹_› ‹_›,by simp at e1;exact Nat.lt_of_le_of_ne ‹_› ‹_›,by exact Nat.lt_succ_self _,g0⟩) ?s3)
 case s3=>
  rintro c st' ⟨hs,r,o,rfl,hg⟩
  exact wpS_pure (h r st' hs hg)
 case s2=>
  rintro c st' ⟨hs,out,ia,ib,mg,rfl,q1,q2,q3,g⟩
  lia
 case s1=>
  rintro x c st1 - hx ⟨hs,out,ia,ib,mg,rfl,q1,q2,q3,g⟩
  refine wpS_bind (wpS_mono (wpS_forRange (I:=fun y c st'=>SS st st'∧∃out ia ib ac bc,c=(none,out,ia,ib,ac,bc)∧ia+1 < a.size∧ib < b.size∧x < ia+ib∧(y=0∨x+1 < ia+ib)∧G (Le O key) T out.toList (a.toList.drop ia) (b.toList.drop ib))
   (Q:=fun c st'=>SS st st'∧((∃r o,c=(some r,o)∧il (Le O key) T r.toList)∨∃out ia ib ac bc,c=(none,out,ia,ib,ac,bc)∧ia+1 < a.size∧ib < b.size∧x+1 < ia+ib∧G (Le O key) T out.toList (a.toList.drop ia) (b.toList.drop ib))) ?t1 ?t2 ⟨hs,out,ia,ib,0,0,rfl,q1,q2,q3,.inl rfl,g⟩) ?t3)
  case t2=>
   rintro c st' ⟨hs,out,ia,ib,ac,bc,rfl,q1,q2,q3,q4,g⟩
   exact⟨hs,.inr ⟨out,ia,ib,ac,bc,rfl,q1,q2,by lia,g⟩⟩
  case t1=>
   rintro y c st2 - hy ⟨hs,out,ia,ib,ac,bc,rfl,q1,q2,q3,q4,g⟩
   have q0:ia < a.size:=by exact Nat.lt_of_succ_lt ‹_›
   refine wpS_bind (gT q2 ?_)
   refine wpS_bind (gT q0 ?_)
   refine wpS_bind (yP C (hs.kind.trans hk) (dB _ q2) (dA _ q0) ?_)
   cases e:O.blt (key (at' b ib)) (key (at' a ia))with
   |true=>
    refine wpS_bind (gT q2 ?_)
    have g':=g.pushB q2 (fun y hy=>(Le.of e).trans (sW pa hy))
    by_cases z:(ib+1 == b.size)=true
    ·exact bD z (wpS_pure ⟨hs,.inl ⟨_,_,rfl,g'.doneB (by simp at z;exact Nat.le_of_eq (Eq.symm ‹_›))⟩⟩)
    ·refine bw z ?_
     have z':ib+1 < b.size:=by simp at z;exact Nat.lt_of_le_of_ne ‹_› ‹_›
     dsimp only
     split
     ·exact wpS_pure ⟨hs,.inr ⟨_,_,_,_,_,rfl,q1,z',by exact Nat.succ_lt_succ ‹_›,g'⟩⟩
     ·exact wpS_pure ⟨hs,_,_,_,_,_,rfl,q1,z',by exact rO ‹_›,.inr (by exact Nat.succ_lt_succ ‹_›),g'⟩
   |false=>
    refine wpS_bind (gT q0 ?_)
    have g':=g.pushA (by assumption) (fun y hy=>Le.trans e (sW pb hy))
    by_cases z:(ia+1+1 == a.size)=true
    ·exact bD z (wpS_pure ⟨hs,.inl ⟨_,_,rfl,g'.lastA (by simpa using z) h1⟩⟩)
    ·refine bw z ?_
     have z':ia+1+1 < a.size:=by simp at z;exact Nat.lt_of_le_of_ne ‹_› ‹_›
     dsimp only
     split
     ·exact wpS_pure ⟨hs,.inr ⟨_,_,_,_,_,rfl,z',q2,by lia,g'⟩⟩
     ·exact wpS_pure ⟨hs,_,_,_,_,_,rfl,z',q2,by lia,.inr (by lia),g'⟩
  case t3=>
   rintro c st2 ⟨hs,⟨r,o,rfl,hg⟩ |⟨out,ia,ib,ac,bc,rfl,q1,q2,q3,g⟩⟩
   ·exact wpS_pure ⟨hs,r,_,rfl,hg⟩
   ·refine wpS_bind (wpS_lift (wpAny_rule ⟨rfl,?_⟩))
    refine wpS_bind (wpS_mono (wpS_forRange (I:=fun y c st'=>SS st st'∧∃out ia ib mg ac bc,c=(none,out,ia,ib,mg,ac,bc)∧ia+1 < a.size∧ib < b.size∧x+1 < ia+ib∧G (Le O key) T out.toList (a.toList.drop ia) (b.toList.drop ib))
     (Q:=fun c st'=>SS st st'∧((∃r o,c=(some r,o)∧il (Le O key) T r.toList)∨∃out ia ib mg ac bc,c=(none,out,ia,ib,mg,ac,bc)∧ia+1 < a.size∧ib < b.size∧x+1 < ia+ib∧G (Le O key) T out.toList (a.toList.drop ia) (b.toList.drop ib))) ?u1 ?u2 ⟨hs,out,ia,ib,_,ac,bc,rfl,q1,q2,q3,g⟩) ?u3)
    case u2=>
     rintro c st' ⟨hs,out,ia,ib,mg,ac,bc,rfl,q1,q2,q3,g⟩
     exact⟨hs,.inr ⟨out,ia,ib,mg,ac,bc,rfl,q1,q2,by assumption,g⟩⟩
    case u3=>
     rintro c st3 ⟨hs,⟨r,o,rfl,hg⟩ |⟨out,ia,ib,mg,ac,bc,rfl,q1,q2,q3,g⟩⟩
     ·exact wpS_pure ⟨hs,r,_,rfl,hg⟩
     ·exact wpS_bind (qT hs fun st4 h4=>wpS_pure ⟨h4,out,ia,ib,_,rfl,q1,q2,q3,g⟩)
    case u1=>
     rintro y c st3 - hy ⟨hs,out,ia,ib,mg,ac,bc,rfl,q1,q2,q3,g⟩
     refine Dh fun R hR=>?_
     have Rd:∀r o st',SS st st'→il (Le O key) T r.toList→R (.done (some r,o)) st':=fun r o st' a1 a2=>by rw[hR];exact⟨a1,.inl ⟨r,o,rfl,a2⟩⟩
     have Rn:∀out ia ib mg ac bc st',SS st st'→ia+1 < a.size→ib < b.size→x+1 < ia+ib→G (Le O key) T out.toList (a.toList.drop ia) (b.toList.drop ib)→R (.done (none,out,ia,ib,mg,ac,bc)) st':=
      fun out ia ib mg ac bc st' a1 a2 a3 a4 a5=>by rw[hR];exact⟨a1,.inr ⟨_,_,_,_,_,_,rfl,a2,a3,a4,a5⟩⟩
     have Ry:∀out ia ib mg ac bc st',SS st st'→ia+1 < a.size→ib < b.size→x+1 < ia+ib→G (Le O key) T out.toList (a.toList.drop ia) (b.toList.drop ib)→R (.yield (none,out,ia,ib,mg,ac,bc)) st':=
      fun out ia ib mg ac bc st' a1 a2 a3 a4 a5=>by rw[hR];exact⟨a1,_,_,_,_,_,_,rfl,a2,a3,a4,a5⟩
     clear hR
     extract_lets
     rename Unit→Nat→_=>jp
     refine EM (jp ()) fun mg'=>?_
     refine wpS_bind (qT hs fun st4 h4=>?_)
     refine wpS_bind (gT q2 ?_)
     refine wpS_bind (iB C (base:=ia) (n:=a.size - ia) (hint:=0) (h4.kind.trans hk) (by exact Nat.sub_pos_of_lt (Nat.lt_of_succ_lt ‹_›)) (by exact Nat.le_of_eq (Nat.add_sub_of_le (jV (Nat.lt_of_succ_lt ‹_›)))) (dB _ q2) dA ?m1 fun k hk1 hk2 hk3=>?_)
     case m1=>
      intro i j hij hj e
      simp only[g7,Bool.not_eq_true',bB]at e ⊢
      exact(pL pa (by lia) (by exact Nat.add_lt_of_lt_sub' ‹_›):Le O key (at' a (ia+i)) (at' a (ia+j))).trans e
     simp only[g7,Bool.not_eq_true',Bool.not_eq_false',bB]at hk2 hk3
     dsimp -zeta only
     extract_lets
     rename Unit→Array Keyed→Nat→_=>jp1
     have J1:∀(out:Array Keyed) (ia:Nat),ia+1 < a.size→x+1 < ia+ib→G (Le O key) T out.toList (a.toList.drop ia) (b.toList.drop ib)→(∀y∈a.toList.drop ia,Le O key (at' b ib) y)→wpS (model prog w) A E s (jp1 () out ia) R st4:=by
      intro out ia q1 q3 g hl
      have q0:ia < a.size:=by exact Nat.lt_of_succ_lt ‹_›
      refine wpS_bind (gT q2 ?_)
      have g':=g.pushB q2 hl
      by_cases z:(ib+1 == b.size)=true
      ·exact bD z (wpS_pure (Rd _ _ _ h4 (g'.doneB (by simp at z;exact Nat.le_of_eq (Eq.symm ‹_›)))))
      refine bw z ?_
      have z':ib+1 < b.size:=by simp at z;exact Nat.lt_of_le_of_ne ‹_› ‹_›
      refine wpS_bind (gT q0 ?_)
      refine wpS_bind (iB C (base:=ib+1) (n:=b.size - (ib+1)) (hint:=0) (h4.kind.trans hk) (by exact Nat.sub_pos_of_lt ‹_›) (by exact Nat.le_of_eq (Nat.add_sub_of_le ‹_›)) (dA _ q0) dB ?m2 fun k' hk1' hk2' hk3'=>?_)
      case m2=>
       intro i j hij hj e
       simp only[g7,if_true]at e ⊢
       exact KeyOrd.klt_of_kle_of_klt (O:=O) (pL pb (by lia) (by exact Nat.add_lt_of_lt_sub' ‹_›):Le O key (at' b (ib+1+i)) (at' b (ib+1+j))) e
      simp only[g7,if_true]at hk2' hk3'
      dsimp -zeta only
      extract_lets
      rename Unit→Array Keyed→Nat→_=>jp2
      have J2:∀(out:Array Keyed) (ib':Nat),ib' < b.size→x+1 < ia+ib'→G (Le O key) T out.toList (a.toList.drop ia) (b.toList.drop ib')→(∀y∈b.toList.drop ib',Le O key (at' a ia) y)→wpS (model prog w) A E s (jp2 () out ib') R st4:=by
       intro out ib' p2 p3 g hl
       refine wpS_bind (gT q0 ?_)
       have g':=g.pushA q0 hl
       by_cases z:(ia+1+1 == a.size)=true
       ·exact bD z (wpS_pure (Rd _ _ _ h4 (g'.lastA (by simpa using z) h1)))
       refine bw z ?_
       have z':ia+1+1 < a.size:=by simp at z;exact Nat.lt_of_le_of_ne ‹_› ‹_›
       by_cases z2:(decide (k < 7)&&decide (k' < 7))=true
       ·exact bD z2 (wpS_pure (Rn _ _ _ _ _ _ _ h4 z' p2 (by lia) g'))
       ·exact bw z2 (wpS_pure (Ry _ _ _ _ _ _ _ h4 z' p2 (by lia) g'))
      clear_value jp2
      have tl:∀y∈b.toList.drop (ib+1+k'),Le O key (at' a ia) y:=fun y hy=>by
       obtain⟨j,r1,r2,rfl⟩:=qR hy
       have:=hk3' (j - (ib+1)) (by exact Nat.le_sub_of_add_le' ‹_›) (by exact Nat.sub_lt_sub_right (jK (ov _ _) ‹_›) ‹_›)
       rwa [show ib+1+(j - (ib+1))=j by exact Nat.add_sub_of_le (jK (ov _ _) ‹_›)]at this
      by_cases z2:k' > 0
      ·refine bD z2 ?_
       have g2:=g'.blkB k' fun j j1 j2 y hy=>(Le.of (hk2' j j1)).trans (sW pa hy)
       by_cases z3:(ib+1+k' == b.size)=true
       ·exact bD z3 (wpS_pure (Rd _ _ _ h4 (g2.doneB (by simp at z3;exact Nat.le_of_eq (Eq.symm ‹_›)))))
       ·exact bw z3 (J2 _ (ib+1+k') (by simp at z3;lia) (by lia) g2 tl)
      ·have k0:k'=0:=by exact Nat.eq_zero_of_not_pos ‹_›
       subst k0
       exact bw z2 (J2 _ (ib+1) z' (by exact rO ‹_›) g' tl)
     clear_value jp1
     have tl:∀y∈a.toList.drop (ia+k),Le O key (at' b ib) y:=fun y hy=>by
      obtain⟨j,r1,r2,rfl⟩:=qR hy
      have:=hk3 (j - ia) (by exact Nat.le_sub_of_add_le' ‹_›) (by exact Nat.sub_lt_sub_right (jK (ov _ _) ‹_›) ‹_›)
      rw[show ia+(j - ia)=j by exact Nat.add_sub_of_le (jK (ov _ _) ‹_›)]at this
      exact Le.of this
     by_cases z2:k > 0
     ·refine bD z2 ?_
      have g2:=g.blkA k fun j j1 j2 y hy=>Le.trans (hk2 j j1) (sW pb hy)
      by_cases z3:(ia+k+1 == a.size)=true
      ·exact bD z3 (wpS_pure (Rd _ _ _ h4 (g2.lastA (by simpa using z3) h1)))
      refine bw z3 ?_
      by_cases z4:(ia+k == a.size)=true
      ·exact bD z4 (wpS_pure (Rd _ _ _ h4 (g2.doneA (by simp at z4;exact Nat.le_of_eq (Eq.symm ‹_›)))))
      ·exact bw z4 (J1 _ (ia+k) (by simp at z3 z4;lia) (by lia) g2 tl)
     ·have k0:k=0:=by exact Nat.eq_zero_of_not_pos ‹_›
      subst k0
      exact bw z2 (J1 _ ia q1 q3 g tl)
end
end NhLS
namespace NhLS
set_option autoImplicit false
open PySem PyProof.Rows
structure H (le:Keyed→Keyed→Prop) (T ra rb out:List Keyed):Prop where
 perm:(ra++rb++out).Perm T
 pa:(ra++out).Pairwise le
 pb:(rb++out).Pairwise le
section
variable {le:Keyed→Keyed→Prop} {T out ra rb p:List Keyed}
theorem H.takeA(g:H le T (ra++p) rb out)(h:∀x∈p,∀y∈rb,le y x):H le T ra rb (p++out) where
 perm:=by
  refine List.Perm.trans ?_ g.perm
  rw[←ou]
  refine List.Perm.append_right _ ?_
  rw[ou,ou]
  exact List.Perm.append_left _ List.perm_append_comm
 pa:=by have:=g.pa;simpa[ou]using this
 pb:=by
  have h1:=g.pa
  have h2:=g.pb
  simp only[List.pairwise_append,Zan]at h1 h2 ⊢
  refine⟨h2.1,⟨h1.1.2.1,h1.2.1,fun x hx y hy=>h1.2.2 x (.inr hx) y hy⟩,fun x hx y hy=>?_⟩
  rcases hy with hy |hy
  ·exact h y hy x hx
  ·exact h2.2.2 x hx y hy
theorem H.takeB(g:H le T ra (rb++p) out)(h:∀x∈p,∀y∈ra,le y x):H le T ra rb (p++out) where
 perm:=by have:=g.perm;simpa[ou]using this
 pb:=by have:=g.pb;simpa[ou]using this
 pa:=by
  have h1:=g.pa
  have h2:=g.pb
  simp only[List.pairwise_append,Zan]at h1 h2 ⊢
  refine⟨h1.1,⟨h2.1.2.1,h2.2.1,fun x hx y hy=>h2.2.2 x (.inr hx) y hy⟩,fun x hx y hy=>?_⟩
  rcases hy with hy |hy
  ·exact h y hy x hx
  ·exact h1.2.2 x hx y hy
theorem H.endA(g:H le T ra [] out):il le T (ra++out):=⟨by have:=g.perm;simpa using this,g.pa⟩
theorem H.endB(g:H le T [] rb out):il le T (rb++out):=⟨by have:=g.perm;simpa using this,g.pb⟩
end
section
variable {O:KeyOrd} {key:Keyed→O.α} {a b:Array Keyed} {T:List Keyed} {out:Array Keyed} {i j na nb k:Nat} {x y z:Keyed}
theorem qU(h:y∈a.toList.take i):∃j,j < i∧j < a.size∧y=at' a j:=by
 obtain⟨j,hj,e⟩:=List.mem_iff_getElem.mp h
 rw[List.length_take,Zb]at hj
 refine⟨j,by lia,by lia,?_⟩
 rw[List.getElem_take]at e
 rw[←e,iC]
theorem vP(pa:a.toList.Pairwise (Le O key))(hi:i < a.size)(h:y∈a.toList.take (i+1)):Le O key y (at' a i):=by
 obtain⟨j,h1,h2,rfl⟩:=qU h
 exact pL pa (by exact Nat.le_of_lt_succ ‹_›) hi
theorem vQ(h:i < a.size):a.toList.take (i+1)=a.toList.take i++[at' a i]:=by
 rw[List.take_succ_eq_append_getElem (by simpa using h),iC]
theorem qV(h:i≤j):a.toList.take j=a.toList.take i++(a.extract i j).toList:=by
 rw[Array.toList_extract,List.extract_eq_take_drop,←List.take_add]
 congr 1
 lia
theorem lV:(a.extract 0 i).toList=a.toList.take i:=by
 rw[Array.toList_extract,List.extract_eq_take_drop]
 rfl
theorem qW(h:x∈(a.extract i j).toList):∃k,i≤k∧k < j∧k < a.size∧x=at' a k:=by
 rw[Array.toList_extract,List.extract_eq_take_drop]at h
 obtain⟨k,hk,e⟩:=List.mem_iff_getElem.mp h
 rw[List.length_take,List.length_drop,Zb]at hk
 refine⟨i+k,by exact ov _ _,by lia,by lia,?_⟩
 rw[List.getElem_take,List.getElem_drop]at e
 rw[←e,iC]
theorem H.pushA(g:H (Le O key) T (a.toList.take (na+1)) (b.toList.take nb) out.toList.reverse)(h:na < a.size)(hl:∀y∈b.toList.take nb,Le O key y (at' a na)):H (Le O key) T (a.toList.take na) (b.toList.take nb) (out.push (at' a na)).toList.reverse:=by
 rw[vQ h]at g
 rw[Array.toList_push,List.reverse_append]
 exact g.takeA fun x hx y hy=>by rw[Zaf.mp hx];exact hl y hy
theorem H.pushB(g:H (Le O key) T (a.toList.take na) (b.toList.take (nb+1)) out.toList.reverse)(h:nb < b.size)(hl:∀y∈a.toList.take na,Le O key y (at' b nb)):H (Le O key) T (a.toList.take na) (b.toList.take nb) (out.push (at' b nb)).toList.reverse:=by
 rw[vQ h]at g
 rw[Array.toList_push,List.reverse_append]
 exact g.takeB fun x hx y hy=>by rw[Zaf.mp hx];exact hl y hy
theorem H.blkA(g:H (Le O key) T (a.toList.take na) (b.toList.take nb) out.toList.reverse)(h:i≤na)(hl:∀j,i≤j→j < na→j < a.size→∀y∈b.toList.take nb,Le O key y (at' a j)):H (Le O key) T (a.toList.take i) (b.toList.take nb) (out++(a.extract i na).reverse).toList.reverse:=by
 rw[qV h]at g
 rw[rN,List.reverse_append,Array.toList_reverse,List.reverse_reverse]
 exact g.takeA fun x hx y hy=>by obtain⟨j,h1,h2,h3,rfl⟩:=qW hx;exact hl j h1 h2 h3 y hy
theorem H.blkB(g:H (Le O key) T (a.toList.take na) (b.toList.take nb) out.toList.reverse)(h:i≤nb)(hl:∀j,i≤j→j < nb→j < b.size→∀y∈a.toList.take na,Le O key y (at' b j)):H (Le O key) T (a.toList.take na) (b.toList.take i) (out++(b.extract i nb).reverse).toList.reverse:=by
 rw[qV (a:=b) h]at g
 rw[rN,List.reverse_append,Array.toList_reverse,List.reverse_reverse]
 exact g.takeB fun x hx y hy=>by obtain⟨j,h1,h2,h3,rfl⟩:=qW hx;exact hl j h1 h2 h3 y hy
theorem H.doneA(g:H (Le O key) T (a.toList.take na) (b.toList.take nb) out.toList.reverse)(h:na=0):il (Le O key) T (a.extract 0 na++b.extract 0 nb++out.reverse).toList:=by
 subst h
 rw[rN,rN,lV,lV,Array.toList_reverse]
 exact g.endB
theorem H.doneB(g:H (Le O key) T (a.toList.take na) (b.toList.take nb) out.toList.reverse)(h:nb=0):il (Le O key) T (a.extract 0 na++b.extract 0 nb++out.reverse).toList:=by
 subst h
 rw[rN,rN,lV,lV,Array.toList_reverse,List.take_zero,List.append_nil]
 exact g.endA
theorem H.firstB(g:H (Le O key) T (a.toList.take na) (b.toList.take nb) out.toList.reverse)(h:nb=1)(h1:∀y∈a.toList,Le O key (at' b 0) y):il (Le O key) T (b.extract 0 nb++a.extract 0 na++out.reverse).toList:=by
 rw[rN,rN,lV,lV,Array.toList_reverse,ou]
 have g':H (Le O key) T ([]++a.toList.take na) (b.toList.take nb) out.toList.reverse:=g
 refine(g'.takeA fun x hx y hy=>?_).endB
 obtain⟨j,q1,q2,rfl⟩:=qU hy
 rw[show j=0 by lia]
 exact h1 x (List.mem_of_mem_take hx)
end
section
variable {prog:Program} {w:World} {A:Around} {E:Value→Shared→Prop} {s:Shared} {κ:SortKind} {O:KeyOrd} {key:Keyed→O.α} {dom:Keyed→Prop} {st:SortSt}
theorem io{α:Type}{c:Prop}[Decidable c]{x y:StateT SortSt Sem α}{Q:α→SortSt→Prop}(h1:c→wpS (model prog w) A E s x Q st)(h2:¬c→wpS (model prog w) A E s y Q st):wpS (model prog w) A E s (if c then x else y) Q st:=by
 split
 ·rename_i z;exact h1 z
 ·rename_i z;exact h2 z
theorem xa(C:Cmp prog w A s κ O key dom){a b:Array Keyed}{Q:Array Keyed→SortSt→Prop}(hk:kindOf st=κ)(da:∀x∈a.toList,dom x)(db:∀x∈b.toList,dom x)(ha:0 < a.size)(hb:0 < b.size)
  (pa:a.toList.Pairwise (Le O key)) (pb:b.toList.Pairwise (Le O key)) (h0:∀y∈b.toList,Le O key y (at' a (a.size - 1))) (h1:∀y∈a.toList,Le O key (at' b 0) y)
  (h:∀r st',SS st st'→il (Le O key) (a.toList++b.toList) r.toList→Q r st'):wpS (model prog w) A E s (yO a b) Q st:=by
 refine wpS_bind (wpS_lift (wpAny_rule ⟨rfl,?_⟩))
 have ha':a.size - 1 < a.size:=by exact Nat.sub_lt ‹_› Nat.one_pos
 refine wpS_bind (gT ha' ?_)
 obtain⟨T,hT⟩:∃T,T=a.toList++b.toList:=⟨_,rfl⟩
 rw[←hT]at h
 have g0:H (Le O key) T (a.toList.take (a.size - 1)) (b.toList.take b.size) (#[at' a (a.size - 1)]:Array Keyed).toList.reverse:=by
  have q:H (Le O key) T (a.toList.take (a.size - 1+1)) (b.toList.take b.size) (#[]:Array Keyed).toList.reverse:=by
   have e1:a.toList.take (a.size - 1+1)=a.toList:=List.take_of_length_le (by simp;lia)
   have e2:b.toList.take b.size=b.toList:=List.take_of_length_le (by simp)
   rw[e1,e2]
   exact⟨by simp[hT],by simpa using pa,by simpa using pb⟩
  exact q.pushA ha' fun y hy=>h0 y (List.mem_of_mem_take hy)
 have dA:∀i,i < a.size→dom (at' a i):=fun i hi=>da _ (ke hi)
 have dB:∀i,i < b.size→dom (at' b i):=fun i hi=>db _ (ke hi)
 by_cases e1:(a.size - 1 == 0)=true
 ·refine bD e1 ?_
  exact wpS_pure (h _ st (SS.refl _) (g0.doneA (by simpa using e1)))
 refine bw e1 ?_
 by_cases e2:(b.size == 1)=true
 ·refine bD e2 ?_
  exact wpS_pure (h _ st (SS.refl _) (g0.firstB (by simpa using e2) h1))
 refine bw e2 ?_
 refine wpS_bind (wpS_get ?_)
 refine wpS_bind (wpS_mono (wpS_forRange (I:=fun x c st'=>SS st st'∧∃na nb out mg,c=(none,na,nb,out,mg)∧na≤a.size∧1≤na∧nb≤b.size∧2≤nb∧na+nb+x < a.size+b.size∧H (Le O key) T (a.toList.take na) (b.toList.take nb) out.toList.reverse)
  (Q:=fun c st'=>SS st st'∧∃r o,c=(some r,o)∧il (Le O key) T r.toList) ?s1 ?s2 ⟨SS.refl _,a.size - 1,b.size,_,_,rfl,by exact Nat.sub_le _ _,by simp at e1;exact Nat.pos_of_ne_zero ‹_›,by exact fS _,by simp at e2;lia,by lia,g0⟩) ?s3)
 case s3=>
  rintro c st' ⟨hs,r,o,rfl,hg⟩
  exact wpS_pure (h r st' hs hg)
 case s2=>
  rintro c st' ⟨hs,na,nb,out,mg,rfl,p1,q1,p2,q2,q3,g⟩
  lia
 case s1=>
  rintro x c st1 - hx ⟨hs,na,nb,out,mg,rfl,p1,q1,p2,q2,q3,g⟩
  refine wpS_bind (wpS_mono (wpS_forRange (I:=fun y c st'=>SS st st'∧∃na nb out ac bc,c=(none,na,nb,out,ac,bc)∧na≤a.size∧1≤na∧nb≤b.size∧2≤nb∧na+nb+x < a.size+b.size∧(y=0∨na+nb+(x+1) < a.size+b.size)∧H (Le O key) T (a.toList.take na) (b.toList.take nb) out.toList.reverse)
   (Q:=fun c st'=>SS st st'∧((∃r o,c=(some r,o)∧il (Le O key) T r.toList)∨∃na nb out ac bc,c=(none,na,nb,out,ac,bc)∧na≤a.size∧1≤na∧nb≤b.size∧2≤nb∧na+nb+(x+1) < a.size+b.size∧H (Le O key) T (a.toList.take na) (b.toList.take nb) out.toList.reverse)) ?t1 ?t2 ⟨hs,na,nb,out,0,0,rfl,p1,q1,p2,q2,q3,.inl rfl,g⟩) ?t3)
  case t2=>
   rintro c st' ⟨hs,na,nb,out,ac,bc,rfl,p1,q1,p2,q2,q3,q4,g⟩
   exact⟨hs,.inr ⟨na,nb,out,ac,bc,rfl,p1,q1,p2,q2,by lia,g⟩⟩
  case t1=>
   rintro y c st2 - hy ⟨hs,na,nb,out,ac,bc,rfl,p1,q1,p2,q2,q3,q4,g⟩
   obtain⟨na,rfl⟩:∃n,na=n+1:=⟨na - 1,by exact(Nat.sub_add_cancel ‹_›).symm⟩
   obtain⟨nb,rfl⟩:∃n,nb=n+1:=⟨nb - 1,by lia⟩
   have p1':na < a.size:=by assumption
   have p2':nb < b.size:=by assumption
   refine wpS_bind (gT p2' ?_)
   refine wpS_bind (gT p1' ?_)
   refine wpS_bind (yP C (hs.kind.trans hk) (dB _ p2') (dA _ p1') ?_)
   simp only[Nat.add_sub_cancel]
   cases e:O.blt (key (at' b nb)) (key (at' a na))with
   |true=>
    refine wpS_bind (gT p1' ?_)
    have g':=g.pushA p1' (fun y hy=>(vP pb p2' hy).trans (Le.of e))
    by_cases z:(na == 0)=true
    ·exact bD z (wpS_pure ⟨hs,.inl ⟨_,_,rfl,g'.doneA (by simpa using z)⟩⟩)
    ·refine bw z ?_
     have z':1≤na:=by simp at z;exact Nat.pos_of_ne_zero ‹_›
     split
     ·exact wpS_pure ⟨hs,.inr ⟨na,nb+1,_,_,_,rfl,by exact jV ‹_›,z',p2,q2,by lia,g'⟩⟩
     ·exact wpS_pure ⟨hs,na,nb+1,_,_,_,rfl,by exact jV ‹_›,z',p2,q2,by lia,.inr (by lia),g'⟩
   |false=>
    refine wpS_bind (gT p2' ?_)
    have g':=g.pushB p2' (fun y hy=>(vP pa p1' hy).trans e)
    by_cases z:(nb == 1)=true
    ·exact bD z (wpS_pure ⟨hs,.inl ⟨_,_,rfl,g'.firstB (by simpa using z) h1⟩⟩)
    ·refine bw z ?_
     have z':2≤nb:=by simp at z;lia
     split
     ·exact wpS_pure ⟨hs,.inr ⟨na+1,nb,_,_,_,rfl,p1,q1,by exact jV ‹_›,z',by lia,g'⟩⟩
     ·exact wpS_pure ⟨hs,na+1,nb,_,_,_,rfl,p1,q1,by exact jV ‹_›,z',by lia,.inr (by lia),g'⟩
  case t3=>
   rintro c st2 ⟨hs,⟨r,o,rfl,hg⟩ |⟨na,nb,out,ac,bc,rfl,p1,q1,p2,q2,q3,g⟩⟩
   ·exact wpS_pure ⟨hs,r,_,rfl,hg⟩
   ·refine wpS_bind (wpS_lift (wpAny_rule ⟨rfl,?_⟩))
    refine wpS_bind (wpS_mono (wpS_forRange (I:=fun y c st'=>SS st st'∧∃na nb out mg ac bc,c=(none,na,nb,out,mg,ac,bc)∧na≤a.size∧1≤na∧nb≤b.size∧2≤nb∧na+nb+(x+1) < a.size+b.size∧H (Le O key) T (a.toList.take na) (b.toList.take nb) out.toList.reverse)
     (Q:=fun c st'=>SS st st'∧((∃r o,c=(some r,o)∧il (Le O key) T r.toList)∨∃na nb out mg ac bc,c=(none,na,nb,out,mg,ac,bc)∧na≤a.size∧1≤na∧nb≤b.size∧2≤nb∧na+nb+(x+1) < a.size+b.size∧H (Le O key) T (a.toList.take na) (b.toList.take nb) out.toList.reverse)) ?u1 ?u2 ⟨hs,na,nb,out,_,ac,bc,rfl,p1,q1,p2,q2,q3,g⟩) ?u3)
    case u2=>
     rintro c st' ⟨hs,na,nb,out,mg,ac,bc,rfl,p1,q1,p2,q2,q3,g⟩
     exact⟨hs,.inr ⟨na,nb,out,mg,ac,bc,rfl,p1,q1,p2,q2,by assumption,g⟩⟩
    case u3=>
     rintro c st3 ⟨hs,⟨r,o,rfl,hg⟩ |⟨na,nb,out,mg,ac,bc,rfl,p1,q1,p2,q2,q3,g⟩⟩
     ·exact wpS_pure ⟨hs,r,_,rfl,hg⟩
     ·exact wpS_bind (qT hs fun st4 h4=>wpS_pure ⟨h4,na,nb,out,_,rfl,p1,q1,p2,q2,q3,g⟩)
    case u1=>
     rintro y c st3 - hy ⟨hs,na,nb,out,mg,ac,bc,rfl,p1,q1,p2,q2,q3,g⟩
     refine Dh fun R hR=>?_
     have Rd:∀r o st',SS st st'→il (Le O key) T r.toList→R (.done (some r,o)) st':=fun r o st' a1 a2=>by rw[hR];exact⟨a1,.inl ⟨r,o,rfl,a2⟩⟩
     have Rn:∀na nb out mg ac bc st',SS st st'→na≤a.size→1≤na→nb≤b.size→2≤nb→na+nb+(x+1) < a.size+b.size→H (Le O key) T (a.toList.take na) (b.toList.take nb) out.toList.reverse→R (.done (none,na,nb,out,mg,ac,bc)) st':=
      fun na nb out mg ac bc st' a1 a2 a3 a4 a5 a6 a7=>by rw[hR];exact⟨a1,.inr ⟨_,_,_,_,_,_,rfl,a2,a3,a4,a5,a6,a7⟩⟩
     have Ry:∀na nb out mg ac bc st',SS st st'→na≤a.size→1≤na→nb≤b.size→2≤nb→na+nb+(x+1) < a.size+b.size→H (Le O key) T (a.toList.take na) (b.toList.take nb) out.toList.reverse→R (.yield (none,na,nb,out,mg,ac,bc)) st':=
      fun na nb out mg ac bc st' a1 a2 a3 a4 a5 a6 a7=>by rw[hR];exact⟨a1,_,_,_,_,_,_,rfl,a2,a3,a4,a5,a6,a7⟩
     clear hR
     obtain⟨nb,rfl⟩:∃n,nb=n+1:=⟨nb - 1,by lia⟩
     have p2':nb < b.size:=by assumption
     have q2':1≤nb:=by exact Nat.le_of_lt_succ ‹_›
     extract_lets
     rename Unit→Nat→_=>jp
     refine EM (jp ()) fun mg'=>?_
     refine wpS_bind (qT hs fun st4 h4=>?_)
     refine wpS_bind (gT p2' ?_)
     refine wpS_bind (iB C (k:=at' b nb) (base:=0) (n:=na) (hint:=na - 1) (h4.kind.trans hk) (by exact Nat.sub_lt ‹_› Nat.one_pos) (by lia) (dB _ p2') dA ?m1 fun k hk1 hk2 hk3=>?_)
     case m1=>
      intro i j hij hj e
      simp only[g7,Bool.not_eq_true',bB]at e ⊢
      exact(pL pa (by exact jV ‹_›) (by exact lE ‹_› ‹_›):Le O key (at' a i) (at' a j)).trans e
     simp only[g7,Bool.not_eq_true',Bool.not_eq_false',bB]at hk2 hk3
     dsimp -zeta only
     extract_lets
     rename Unit→Nat→Array Keyed→_=>jp1
     have J1:∀(na:Nat) (out:Array Keyed),na≤a.size→1≤na→na+(nb+1)+(x+1) < a.size+b.size→H (Le O key) T (a.toList.take na) (b.toList.take (nb+1)) out.toList.reverse→(∀y∈a.toList.take na,Le O key y (at' b nb))→wpS (model prog w) A E s (jp1 () na out) R st4:=by
      intro na out p1 q1 q3 g hl
      obtain⟨na,rfl⟩:∃n,na=n+1:=⟨na - 1,by exact(Nat.sub_add_cancel ‹_›).symm⟩
      have p1':na < a.size:=by assumption
      refine wpS_bind (gT p2' ?_)
      have g':=g.pushB p2' hl
      by_cases z:(nb == 1)=true
      ·exact bD z (wpS_pure (Rd _ _ _ h4 (g'.firstB (by simpa using z) h1)))
      refine bw z ?_
      have z':2≤nb:=by simp at z;lia
      refine wpS_bind (gT p1' ?_)
      refine wpS_bind (iB C (k:=at' a na) (base:=0) (n:=nb) (hint:=nb - 1) (h4.kind.trans hk) (by exact Nat.sub_lt ‹_› Nat.one_pos) (by lia) (dA _ p1') dB ?m2 fun k' hk1' hk2' hk3'=>?_)
      case m2=>
       intro i j hij hj e
       simp only[g7,bB]at e ⊢
       exact KeyOrd.klt_of_kle_of_klt (O:=O) (pL pb (by exact jV ‹_›) (by lia):Le O key (at' b i) (at' b j)) e
      simp only[g7,bB]at hk2' hk3'
      dsimp -zeta only
      extract_lets
      rename Unit→Nat→Array Keyed→_=>jp2
      have J2:∀(nb':Nat) (out:Array Keyed),nb'≤b.size→2≤nb'→na+1+nb'+(x+1) < a.size+b.size→H (Le O key) T (a.toList.take (na+1)) (b.toList.take nb') out.toList.reverse→(∀y∈b.toList.take nb',Le O key y (at' a na))→wpS (model prog w) A E s (jp2 () nb' out) R st4:=by
       intro nb' out r1 r2 r3 g hl
       refine wpS_bind (gT p1' ?_)
       have g':=g.pushA p1' hl
       by_cases z:(na == 0)=true
       ·exact bD z (wpS_pure (Rd _ _ _ h4 (g'.doneA (by simpa using z))))
       refine bw z ?_
       have z':1≤na:=by simp at z;exact Nat.pos_of_ne_zero ‹_›
       refine io (fun _=>?_) (fun _=>?_)
       ·exact wpS_pure (Rn _ _ _ _ _ _ _ h4 (by exact jV ‹_›) z' r1 r2 (by lia) g')
       ·exact wpS_pure (Ry _ _ _ _ _ _ _ h4 (by exact jV ‹_›) z' r1 r2 (by lia) g')
      clear_value jp2
      have tl:∀y∈b.toList.take k',Le O key y (at' a na):=fun y hy=>by
       obtain⟨j,r1,r2,rfl⟩:=qU hy
       exact Le.of (hk2' j r1)
      by_cases z2:nb - k' > 0
      ·refine bD z2 ?_
       have g2:=g'.blkB hk1' fun j j1 j2 j3 y hy=>(vP pa p1' hy).trans (hk3' j j1 j2)
       by_cases z3:(k' == 1)=true
       ·exact bD z3 (wpS_pure (Rd _ _ _ h4 (g2.firstB (by simpa using z3) h1)))
       refine bw z3 ?_
       by_cases z4:(k' == 0)=true
       ·exact bD z4 (wpS_pure (Rd _ _ _ h4 (g2.doneB (by simpa using z4))))
       ·exact bw z4 (J2 k' _ (by lia) (by simp at z3 z4;lia) (by lia) g2 tl)
      ·have k0:k'=nb:=by exact Nat.le_antisymm ‹_› (Nat.sub_eq_zero_iff_le.mp (Nat.eq_zero_of_not_pos ‹_›))
       subst k0
       exact bw z2 (J2 k' _ (by exact jV ‹_›) z' (by lia) g' tl)
     clear_value jp1
     have tl:∀y∈a.toList.take k,Le O key y (at' b nb):=fun y hy=>by
      obtain⟨j,r1,r2,rfl⟩:=qU hy
      exact hk2 j r1
     by_cases z2:na - k > 0
     ·refine bD z2 ?_
      have g2:=g.blkA hk1 fun j j1 j2 j3 y hy=>(vP pb p2' hy).trans (Le.of (hk3 j j1 j2))
      by_cases z3:(k == 0)=true
      ·exact bD z3 (wpS_pure (Rd _ _ _ h4 (g2.doneA (by simpa using z3))))
      ·exact bw z3 (J1 k _ (by exact jK ‹_› ‹_›) (by simp at z3;exact Nat.pos_of_ne_zero ‹_›) (by lia) g2 tl)
     ·have k0:k=na:=by exact Nat.le_antisymm ‹_› (Nat.sub_eq_zero_iff_le.mp (Nat.eq_zero_of_not_pos ‹_›))
      subst k0
      exact bw z2 (J1 k _ p1 q1 q3 g tl)
end
end NhLS
namespace NhLS
set_option autoImplicit false
open PySem PyProof.Rows
def So(O:KeyOrd)(key:Keyed→O.α)(a:Array Keyed)(lo hi:Nat):Prop:=∀i j,lo≤i→i < j→j < hi→Le O key (at' a i) (at' a j)
section
variable {O:KeyOrd} {key:Keyed→O.α} {a b:Array Keyed} {i j lo hi p:Nat} {x y z:Keyed}
theorem So.le(h:So O key a lo hi)(h1:lo≤i)(h2:i≤j)(h3:j < hi):Le O key (at' a i) (at' a j):=by
 by_cases e:i=j
 ·rw[e];exact Le.refl _
 ·exact h i j h1 (by exact Nat.lt_of_le_of_ne ‹_› ‹_›) h3
theorem So.ext(h:So O key a lo hi)(q:∀j,lo≤j→j < hi→at' b j=at' a j):So O key b lo hi:=fun i j h1 h2 h3=>by
 rw[q i (by assumption) (by lia),q j (by lia) h3]
 exact h i j h1 h2 h3
theorem sX(h1:i+j < hi)(h2:hi≤a.size):at' (a.extract i hi) j=at' a (i+j):=by
 simp[at',Array.getD,show j < min hi a.size - i by lia,show i+j < a.size by exact lE ‹_› ‹_›]
theorem B7(h1:lo≤hi)(h2:hi≤a.size):(a.extract lo hi).size=hi - lo:=by
 rw[Array.size_extract]
 lia
theorem B8(h:So O key a lo hi)(h2:hi≤a.size):(a.extract lo hi).toList.Pairwise (Le O key):=by
 rw[List.pairwise_iff_getElem]
 intro i j hi' hj hij
 rw[Zb,Array.size_extract]at hi' hj
 rw[iC,iC,sX (by lia) h2,sX (by lia) h2]
 exact h _ _ (by exact ov _ _) (by exact Nat.add_lt_add_left ‹_› _) (by lia)
theorem Di(h:i < a.size)(j:Nat):at' (a.setIfInBounds i x) j=if i=j then x else at' a j:=by
 unfold at'
 rw[Array.getD_eq_getD_getElem?,Array.getD_eq_getD_getElem?,Array.getElem?_setIfInBounds]
 by_cases e:i=j
 ·subst e;simp[h]
 ·simp[e]
def wr(a:Array Keyed)(p:Nat)(M:List (Keyed×Nat)):Array Keyed:=M.foldl (fun a q=>a.setIfInBounds (p+q.2) q.1) a
theorem vR(p:Nat):∀(M:List (Keyed×Nat)) (a:Array Keyed),(wr a p M).size=a.size
 |[],a=>rfl
 |q::M,a=>(vR p M _).trans (Array.size_setIfInBounds ..)
theorem yR(p:Nat):∀(M:List Keyed) (n:Nat) (a:Array Keyed),p+n+M.length≤a.size→∀j,at' (wr a p (M.zipIdx n)) j=if p+n≤j∧j < p+n+M.length then M.getD (j - (p+n)) AS else at' a j
 |[],n,a,h,j=>by
  rw[if_neg (by simp)]
  rfl
 |x::M,n,a,h,j=>by
  rw[List.length_cons]at h
  show at' (wr (a.setIfInBounds (p+n) x) p (M.zipIdx (n+1))) j=_
  rw[yR p M (n+1) _ (by rw[Array.size_setIfInBounds];lia),Di (by lia),List.length_cons]
  by_cases e:p+n=j
  ·subst e
   rw[if_neg (by lia),if_pos rfl,if_pos (by lia),Nat.sub_self]
   rfl
  ·by_cases q:p+(n+1)≤j∧j < p+(n+1)+M.length
   ·rw[if_pos q,if_pos (by lia),show j - (p+n)=(j - (p+(n+1)))+1 by lia]
    rfl
   ·rw[if_neg q,if_neg e,if_neg (by lia)]
theorem AT(M:List Keyed)(a:Array Keyed)(h:p+M.length≤a.size):(wr a p M.zipIdx).toList=a.toList.take p++M++a.toList.drop (p+M.length):=by
 have hs:=vR p M.zipIdx a
 refine List.ext_getElem (by simp[hs];lia) fun i h1 h2=>?_
 rw[iC,show M.zipIdx=M.zipIdx 0 from rfl,yR p M 0 a (by assumption)]
 have h1':i < a.size:=by simpa[hs]using h1
 by_cases c1:i < p
 ·rw[if_neg (by lia),List.getElem_append_left (by simp;lia),List.getElem_append_left (by simp;lia),List.getElem_take,iC]
 ·by_cases c2:i < p+M.length
  ·rw[if_pos (by lia),List.getElem_append_left (by simp;lia),List.getElem_append_right (by simp;lia)]
   have e:i - (a.toList.take p).length=i - (p+0):=by simp;lia
   simp only[e]
   simp[show i - p < M.length by lia]
  ·rw[if_neg (by exact fun h=>‹¬_› h.2),List.getElem_append_right (by simp;lia),List.getElem_drop,iC]
   congr 1
   simp
   lia
end
section
variable {prog:Program} {w:World} {A:Around} {E:Value→Shared→Prop} {s:Shared} {κ:SortKind} {O:KeyOrd} {key:Keyed→O.α} {dom:Keyed→Prop}
theorem AU{st st':SortSt}{Q:PUnit→SortSt→Prop}(h:Q ⟨⟩ st'):wpS (model prog w) A E s (set st':StateT SortSt Sem PUnit) Q st:=by
 unfold wpS;rw[StateT.run_set];exact wpAny_pure ⟨rfl,h⟩
theorem xb(C:Cmp prog w A s κ O key dom){a:Array Keyed}{pd:Array (Nat×Nat×Nat)}{g i sa na pw nb pw':Nat}{Q:Bool→SortSt→Prop}(da:∀i,i < a.size→dom (at' a i))(hp1:pd[i]? =some (sa,na,pw))(hp2:pd[i+1]? =some (sa+na,nb,pw'))
  (h1:1≤na) (h2:1≤nb) (hz:sa+na+nb≤a.size) (s1:So O key a sa (sa+na)) (s2:So O key a (sa+na) (sa+na+nb))
  (h:∀b g',b.toList.Perm a.toList→(∀j,j < sa∨sa+na+nb≤j→at' b j=at' a j)→So O key b sa (sa+na+nb)→Q true (SortSt.mk' κ b ((pd.setIfInBounds i (sa,na+nb,pw)).eraseIdxIfInBounds (i+1)) g' none)):
  wpS (model prog w) A E s (mergeAt' i) Q (SortSt.mk' κ a pd g none):=by
 refine wpS_bind (wpS_get ?_)
 simp only[hp1,hp2]
 refine wpS_bind (AU ?_)
 have b1:sa+na < a.size:=by lia
 refine wpS_bind (gT b1 ?_)
 refine wpS_bind (iB C (k:=at' a (sa+na)) (arr:=a) (base:=sa) (n:=na) (hint:=0) rfl (by assumption) (by exact jV ‹_›) (da _ b1) da ?m1 fun k hk1 hk2 hk3=>?_)
 case m1=>
  intro i j hij hj e
  simp only[g7,Bool.not_eq_true',bB]at e ⊢
  exact(s1.le (by exact ov _ _) (by lia) (by exact Nat.add_lt_add_left ‹_› _):Le O key (at' a (sa+i)) (at' a (sa+j))).trans e
 simp only[g7,Bool.not_eq_true',Bool.not_eq_false',bB]at hk2 hk3
 have lo:∀i,sa≤i→i < sa+k→∀j,sa+na≤j→j < sa+na+nb→Le O key (at' a i) (at' a j):=fun i r1 r2 j r3 r4=>by
  have:=hk2 (i - sa) (by exact Nat.sub_lt_left_of_lt_add ‹_› ‹_›)
  rw[show sa+(i - sa)=i by exact Nat.add_sub_of_le ‹_›]at this
  exact Le.trans this (s2.le (by(solve_by_elim (maxDepth:=3) only[*,jK,lE,vm,jV,Nat.add_le_add_left,Nat.add_lt_add_left,ov,Nat.lt_of_succ_lt])) r3 r4)
 by_cases z:(na - k == 0)=true
 ·refine bD z (wpS_pure (h a g (List.Perm.refl _) (fun _ _=>rfl) fun i j r1 r2 r3=>?_))
  have z':k=na:=by simp at z;lia
  by_cases c:j < sa+na
  ·exact s1 i j r1 r2 c
  ·by_cases c':i < sa+na
   ·exact lo i r1 (by lia) j (by exact Nat.le_of_not_lt ‹_›) r3
   ·exact s2 i j (by exact Nat.le_of_not_lt ‹_›) r2 r3
 refine bw z ?_
 have z':k < na:=by simp at z;lia
 have b2:sa+na - 1 < a.size:=by exact vm (Nat.sub_le _ _) ‹_›
 rw[show sa+k+(na - k) - 1=sa+na - 1 by lia]
 refine wpS_bind (gT b2 ?_)
 refine wpS_bind (iB C (k:=at' a (sa+na - 1)) (arr:=a) (base:=sa+na) (n:=nb) (hint:=nb - 1) rfl (by exact Nat.sub_lt ‹_› Nat.one_pos) (by assumption) (da _ b2) da ?m2 fun m hm1 hm2 hm3=>?_)
 case m2=>
  intro i j hij hj e
  simp only[g7,if_true]at e ⊢
  exact KeyOrd.klt_of_kle_of_klt (O:=O) (s2.le (by exact ov _ _) (by lia) (by exact Nat.add_lt_add_left ‹_› _):Le O key (at' a (sa+na+i)) (at' a (sa+na+j))) e
 simp only[g7,if_true]at hm2 hm3
 have up:∀j,sa+na+m≤j→j < sa+na+nb→∀i,sa≤i→i < sa+na→Le O key (at' a i) (at' a j):=fun j r3 r4 i r1 r2=>by
  have:=hm3 (j - (sa+na)) (by exact Nat.le_sub_of_add_le' ‹_›) (by lia)
  rw[show sa+na+(j - (sa+na))=j by exact Nat.add_sub_of_le (jK (ov _ _) ‹_›)]at this
  exact(s1.le r1 (by lia) (by lia):Le O key (at' a i) (at' a (sa+na - 1))).trans this
 by_cases y:(m == 0)=true
 ·refine bD y (wpS_pure (h a g (List.Perm.refl _) (fun _ _=>rfl) fun i j r1 r2 r3=>?_))
  have y':m=0:=by simpa using y
  by_cases c:j < sa+na
  ·exact s1 i j r1 r2 c
  ·by_cases c':i < sa+na
   ·exact up j (by lia) r3 i r1 c'
   ·exact s2 i j (by exact Nat.le_of_not_lt ‹_›) r2 r3
 refine bw y ?_
 have y':0 < m:=by simp at y;exact Nat.pos_of_ne_zero ‹_›
 have zx:(a.extract (sa+k) (sa+na)).size=na - k:=by rw[B7 (by exact Nat.add_le_add_left ‹_› _) (by exact jV ‹_›)];lia
 have zy:(a.extract (sa+na) (sa+na+m)).size=m:=by rw[B7 (by exact ov _ _) (by lia)];lia
 have mx:∀x∈(a.extract (sa+k) (sa+na)).toList,∃t,sa+k≤t∧t < sa+na∧x=at' a t:=fun x hx=>by
  obtain⟨t,t1,t2,t3,t4⟩:=qW hx
  exact⟨t,t1,t2,t4⟩
 have my:∀x∈(a.extract (sa+na) (sa+na+m)).toList,∃t,sa+na≤t∧t < sa+na+m∧x=at' a t:=fun x hx=>by
  obtain⟨t,t1,t2,t3,t4⟩:=qW hx
  exact⟨t,t1,t2,t4⟩
 have dx:∀x∈(a.extract (sa+k) (sa+na)).toList,dom x:=fun x hx=>by obtain⟨t,t1,t2,rfl⟩:=mx x hx;exact da _ (by lia)
 have dy:∀x∈(a.extract (sa+na) (sa+na+m)).toList,dom x:=fun x hx=>by obtain⟨t,t1,t2,rfl⟩:=my x hx;exact da _ (by lia)
 have px:=B8 (hi:=sa+na) (lo:=sa+k) (a:=a) (fun i j r1 r2 r3=>s1 i j (by exact jK (ov _ _) ‹_›) r2 r3) (by exact jV ‹_›)
 have py:=B8 (hi:=sa+na+m) (lo:=sa+na) (a:=a) (fun i j r1 r2 r3=>s2 i j (by assumption) r2 (by lia)) (by lia)
 have fx:at' (a.extract (sa+k) (sa+na)) 0=at' a (sa+k):=sX (by exact Nat.add_lt_add_left ‹_› _) (by exact jV ‹_›)
 have lx:at' (a.extract (sa+k) (sa+na)) ((a.extract (sa+k) (sa+na)).size - 1)=at' a (sa+na - 1):=by
  rw[zx,sX (by lia) (by exact jV ‹_›)]
  congr 1
  lia
 have fy:at' (a.extract (sa+na) (sa+na+m)) 0=at' a (sa+na):=sX (by exact Nat.add_lt_add_left ‹_› _) (by lia)
 have h0:O.blt (key (at' a (sa+na))) (key (at' a (sa+k)))=true:=hk3 k (by exact fS _) z'
 have yl:∀y∈(a.extract (sa+na) (sa+na+m)).toList,Le O key y (at' a (sa+na - 1)):=fun y hy=>by
  obtain⟨t,t1,t2,rfl⟩:=my y hy
  have:=hm2 (t - (sa+na)) (by exact Nat.sub_lt_left_of_lt_add ‹_› ‹_›)
  rw[show sa+na+(t - (sa+na))=t by exact Nat.add_sub_of_le ‹_›]at this
  exact Le.of this
 have xf:∀y∈(a.extract (sa+k) (sa+na)).toList,Le O key (at' a (sa+na)) y:=fun y hy=>by
  obtain⟨t,t1,t2,rfl⟩:=mx y hy
  exact(Le.of h0).trans (s1.le (by exact ov _ _) t1 t2)
 have fin:∀(r:Array Keyed) (g':Nat),il (Le O key) ((a.extract (sa+k) (sa+na)).toList++(a.extract (sa+na) (sa+na+m)).toList) r.toList→
   Q true (SortSt.mk' κ (wr a (sa+k) r.toList.zipIdx) ((pd.setIfInBounds i (sa,na+nb,pw)).eraseIdxIfInBounds (i+1)) g' none):=by
  intro r g' ⟨gp,gs⟩
  have rl:r.toList.length=na - k+m:=by rw[gp.length_eq,vn,Zb,Zb,zx,zy]
  have at1:=yR (sa+k) r.toList 0 a (by lia)
  have rm:∀x∈r.toList,∃t,sa+k≤t∧t < sa+na+m∧x=at' a t:=fun x hx=>by
   rcases Zan.mp (gp.mem_iff.mp hx)with hx |hx
   ·obtain⟨t,t1,t2,e⟩:=mx x hx
    exact⟨t,t1,by exact Nat.lt_add_right _ ‹_›,e⟩
   ·obtain⟨t,t1,t2,e⟩:=my x hx
    exact⟨t,by lia,t2,e⟩
  have rg:∀n,n < r.toList.length→r.toList.getD n AS=at' r n:=fun n hn=>by
   have hn':n < r.size:=by simpa using hn
   rw[←iC hn]
   simp[hn']
  have rt:∀n,n < r.toList.length→∃t,sa+k≤t∧t < sa+na+m∧at' r n=at' a t:=fun n hn=>rm _ (by rw[←iC hn];exact List.getElem_mem _)
  refine h _ g' ?_ (fun j hj=>?_) fun i j r1 r2 r3=>?_
  ·rw[AT _ _ (by lia)]
   have ea:a.toList=a.toList.take (sa+k)++((a.extract (sa+k) (sa+na)).toList++(a.extract (sa+na) (sa+na+m)).toList)++a.toList.drop (sa+k+r.toList.length):=by
    rw[←ou,←qV (by exact Nat.add_le_add_left ‹_› _),←qV (by exact ov _ _),rl,show sa+k+(na - k+m)=sa+na+m by lia,List.take_append_drop]
   refine List.Perm.trans ?_ (List.Perm.of_eq ea.symm)
   exact List.Perm.append_right _ (List.Perm.append_left _ gp)
  ·show at' (wr a (sa+k) (r.toList.zipIdx 0)) j=_
   rw[at1,if_neg (by lia)]
  ·show Le O key (at' (wr a (sa+k) (r.toList.zipIdx 0)) i) (at' (wr a (sa+k) (r.toList.zipIdx 0)) j)
   rw[at1,at1]
   by_cases ci:i < sa+k
   ·rw[if_neg (by lia)]
    by_cases cj:j < sa+na+m
    ·by_cases cj':j < sa+k
     ·rw[if_neg (by lia)]
      exact s1 i j r1 r2 (by lia)
     ·rw[if_pos (by lia),rg _ (by lia)]
      obtain⟨t,t1,t2,e⟩:=rt (j - (sa+k+0)) (by lia)
      rw[e]
      by_cases ct:t < sa+na
      ·exact s1 i t r1 (by exact lE ‹_› ‹_›) ct
      ·exact lo i r1 ci t (by exact Nat.le_of_not_lt ‹_›) (by lia)
    ·rw[if_neg (by lia)]
     exact lo i r1 ci j (by lia) r3
   ·by_cases ci':i < sa+na+m
    ·rw[if_pos (by lia),rg _ (by lia)]
     by_cases cj:j < sa+na+m
     ·rw[if_pos (by lia),rg _ (by lia)]
      have:=List.pairwise_iff_getElem.mp gs (i - (sa+k+0)) (j - (sa+k+0)) (by lia) (by lia) (by lia)
      rw[iC,iC]at this
      exact this
     ·rw[if_neg (by lia)]
      obtain⟨t,t1,t2,e⟩:=rt (i - (sa+k+0)) (by lia)
      rw[e]
      by_cases ct:t < sa+na
      ·exact up j (by exact Nat.le_of_not_lt ‹_›) r3 t (by exact jK (ov _ _) ‹_›) ct
      ·exact s2 t j (by exact Nat.le_of_not_lt ‹_›) (by lia) r3
    ·rw[if_neg (by lia),if_neg (by lia)]
     exact s2 i j (by lia) r2 r3
 refine io (fun _=>?_) (fun _=>?_)
 ·refine wpS_bind (w_ C rfl dx dy (by lia) (by lia) px py (by rw[fx,fy];exact h0) (by rw[lx];exact yl) fun r st' hs hg=>?_)
  obtain⟨g',rfl⟩:=hs
  exact wpS_bind (wpS_modify (wpS_bind (wpS_get (wpS_pure (fin r g' hg)))))
 ·refine wpS_bind (xa C rfl dx dy (by lia) (by lia) px py (by rw[lx];exact yl) (by rw[fy];exact xf) fun r st' hs hg=>?_)
  obtain⟨g',rfl⟩:=hs
  exact wpS_bind (wpS_modify (wpS_bind (wpS_get (wpS_pure (fin r g' hg)))))
end
end NhLS
namespace NhLS
set_option autoImplicit false
open PySem PyProof.Rows
structure Sx (a b:Array Keyed) (lo hi:Nat):Prop where
 perm:b.toList.Perm a.toList
 out:∀j,j < lo∨hi≤j→at' b j=at' a j
def Dn(O:KeyOrd)(key:Keyed→O.α)(a:Array Keyed)(lo hi:Nat):Prop:=∀i j,lo≤i→i < j→j < hi→Le O key (at' a j) (at' a i)
def Eqs(O:KeyOrd)(key:Keyed→O.α)(a:Array Keyed)(e q:Nat):Prop:=∀i,e - (q+1)≤i→i < e→Le O key (at' a i) (at' a (e - 1))∧Le O key (at' a (e - 1)) (at' a i)
section
variable {O:KeyOrd} {key:Keyed→O.α} {a b c:Array Keyed} {i j k lo hi n q:Nat}
theorem Sx.refl:Sx a a lo hi:=⟨List.Perm.refl _,fun _ _=>rfl⟩
theorem Sx.trans(h1:Sx a b lo hi)(h2:Sx b c lo hi):Sx a c lo hi:=⟨h2.perm.trans h1.perm,fun j hj=>(h2.out j hj).trans (h1.out j hj)⟩
theorem Sx.size(h:Sx a b lo hi):b.size=a.size:=by have:=h.perm.length_eq;simpa using this
theorem Sx.dom{dom:Keyed→Prop}(h:Sx a b lo hi)(da:∀x∈a.toList,dom x):∀x∈b.toList,dom x:=fun x hx=>da x (h.perm.mem_iff.mp hx)
theorem AV(a:Array Keyed)(i:Nat):at' a i=(a[i]?).getD AS:=Array.getD_eq_getD_getElem? ..
theorem iM(hj:j≤a.size)(k:Nat):at' (mirror a i j ((j - i) / 2)) k=if i≤k∧k < j then at' a (i+j - 1 - k)else at' a k:=by
 rw[AV,getElem?_mirror_all hj]
 split <;> rw[AV]
theorem uW(hk:k < a.size)(hd:n≤k)(i:Nat):at' (bubble a k n) i=if i=k - n then at' a k else if k - n < i∧i≤k then at' a (i - 1)else at' a i:=by
 rw[AV,getElem?_bubble hk n hd]
 repeat' split
 all_goals rw[AV]
theorem Sx.rev(h1:lo≤i)(h2:j≤hi)(h3:j≤a.size):Sx a (mirror a i j ((j - i) / 2)) lo hi:=
 ⟨Array.perm_iff_toList_perm.mp (mirror_perm _ _ _ _),fun k hk=>by rw[iM h3,if_neg (by lia)]⟩
theorem Sx.bub(h1:k < a.size)(h0:n≤k)(h2:lo≤k - n)(h3:k < hi):Sx a (bubble a k n) lo hi:=
 ⟨Array.perm_iff_toList_perm.mp (bubble_perm _ _ _),fun j hj=>by rw[uW h1 h0,if_neg (by lia),if_neg (by lia)]⟩
theorem So.step(h:So O key a lo hi)(hl:lo < hi)(e:Le O key (at' a (hi - 1)) (at' a hi)):So O key a lo (hi+1):=fun i j h1 h2 h3=>by
 by_cases c:j < hi
 ·exact h i j h1 h2 c
 ·rw[show j=hi by lia]
  exact(h.le h1 (by lia) (by lia):Le O key (at' a i) (at' a (hi - 1))).trans e
theorem Dn.le(h:Dn O key a lo hi)(h1:lo≤i)(h2:i≤j)(h3:j < hi):Le O key (at' a j) (at' a i):=by
 by_cases e:i=j
 ·rw[e];exact Le.refl _
 ·exact h i j h1 (by exact Nat.lt_of_le_of_ne ‹_› ‹_›) h3
theorem Dn.step(h:Dn O key a lo hi)(hl:lo < hi)(e:Le O key (at' a hi) (at' a (hi - 1))):Dn O key a lo (hi+1):=fun i j h1 h2 h3=>by
 by_cases c:j < hi
 ·exact h i j h1 h2 c
 ·rw[show j=hi by lia]
  exact Le.trans e (h.le h1 (by lia) (by lia))
theorem Dn.rev(h:Dn O key a lo hi)(e:Eqs O key a hi q)(hz:hi≤a.size)(hq:lo+(q+1)≤hi):Dn O key (mirror a (hi - (q+1)) hi ((hi - (hi - (q+1))) / 2)) lo hi:=fun i j h1 h2 h3=>by
 rw[iM hz,iM hz]
 by_cases c:hi - (q+1)≤i
 ·rw[if_pos (by lia),if_pos (by lia)]
  exact(e _ (by lia) (by lia)).1.trans (e _ (by lia) (by lia)).2
 ·rw[if_neg (show ¬(hi - (q+1)≤i∧i < hi) by exact fun h=>‹¬_› h.1)]
  by_cases c':hi - (q+1)≤j
  ·rw[if_pos (by exact⟨‹_›,‹_›⟩)]
   exact h _ _ h1 (by lia) (by lia)
  ·rw[if_neg (by exact fun h=>‹¬_› h.1)]
   exact h _ _ h1 h2 h3
theorem Dn.flip(h:Dn O key a lo hi)(hz:hi≤a.size):So O key (mirror a lo hi ((hi - lo) / 2)) lo hi:=fun i j h1 h2 h3=>by
 rw[iM hz,iM hz,if_pos (by lia),if_pos (by lia)]
 exact h _ _ (by lia) (by lia) (by lia)
theorem Eqs.one:Eqs O key a (hi+1) 0:=fun i h1 h2=>by
 rw[show i=hi by lia]
 exact⟨Le.refl _,Le.refl _⟩
end
section
variable {prog:Program} {w:World} {A:Around} {E:Value→Shared→Prop} {s:Shared} {κ:SortKind} {O:KeyOrd} {key:Keyed→O.α} {dom:Keyed→Prop} {a:Array Keyed} {pd:Array (Nat×Nat×Nat)} {g:Nat}
theorem lW(C:Cmp prog w A s κ O key dom){i j:Nat}{Q:Option Bool→SortSt→Prop}(da:∀x∈a.toList,dom x)(hi:i < a.size)(hj:j < a.size)(h:Q (some (O.blt (key (at' a i)) (key (at' a j)))) (SortSt.mk' κ a pd g none)):wpS (model prog w) A E s (ltAt' i j) Q (SortSt.mk' κ a pd g none):=
 wpS_bind (wpS_get (wpS_bind (gT hi (wpS_bind (gT hj (yP C rfl (da _ (ke hi)) (da _ (ke hj)) h))))))
theorem vS{i j:Nat}{Q:Unit→SortSt→Prop}(h:Q () (SortSt.mk' κ (mirror a i j ((j - i) / 2)) pd g none)):wpS (model prog w) A E s (reverseSlice' i j) Q (SortSt.mk' κ a pd g none):=wpS_modify h
theorem Dj{k l:Nat}{Q:Unit→SortSt→Prop}(h:Q () (SortSt.mk' κ (bubble a k (k - l)) pd g none)):wpS (model prog w) A E s (moveDown' k l) Q (SortSt.mk' κ a pd g none):=wpS_modify h
theorem B9{lo n0 nrem:Nat}{β:Type}{body:Nat→Option β×Nat→StateT SortSt Sem (ForInStep (Option β×Nat))}{Q:Option β×Nat→SortSt→Prop}(h1:1≤n0)(h2:n0≤nrem)(hs:So O key a lo (lo+n0))
  (hb:∀x n (R:ForInStep (Option β×Nat)→SortSt→Prop),1≤n→n < nrem→R (if O.blt (key (at' a (lo+n))) (key (at' a (lo+n - 1)))=true then .done (none,n)else .yield (none,n+1)) (SortSt.mk' κ a pd g none)→wpS (model prog w) A E s (body x (none,n)) R (SortSt.mk' κ a pd g none))
  (h:∀n,n0≤n→n≤nrem→So O key a lo (lo+n)→(n < nrem→O.blt (key (at' a (lo+n))) (key (at' a (lo+n - 1)))=true)→Q (none,n) (SortSt.mk' κ a pd g none)):
  wpS (model prog w) A E s (forIn [n0:nrem] (none,n0) body) Q (SortSt.mk' κ a pd g none):=by
 refine wpS_forRange (I:=fun x c st'=>st'=SortSt.mk' κ a pd g none∧c=(none,x)∧n0≤x∧So O key a lo (lo+x)) ?_ ?_ ⟨rfl,rfl,fS _,hs⟩
 ·rintro x c st' q1 q2 ⟨rfl,rfl,q3,q4⟩
  refine hb x x _ (by exact lE ‹_› ‹_›) q2 ?_
  cases e:O.blt (key (at' a (lo+x))) (key (at' a (lo+x - 1)))with
  |true=>exact h x q3 (by exact jV ‹_›) q4 fun _=>e
  |false=>exact⟨rfl,rfl,by(solve_by_elim (maxDepth:=3) only[*,jK,lE,vm,jV]),q4.step (by lia) e⟩
 ·rintro c st' ⟨rfl,rfl,q3,q4⟩
  rw[show max n0 nrem=nrem by exact Nat.max_eq_right ‹_›]at q4 ⊢
  exact h nrem h2 (fS _) q4 fun z=>absurd z (Nat.lt_irrefl _)
theorem qX(C:Cmp prog w A s κ O key dom){lo n ok:Nat}{Q:Bool→SortSt→Prop}(da:∀x∈a.toList,dom x)(h1:1≤ok)(h2:ok≤n)(hz:lo+n≤a.size)(hs:So O key a lo (lo+ok))
  (h:∀b,Sx a b lo (lo+n)→So O key b lo (lo+n)→Q true (SortSt.mk' κ b pd g none)):wpS (model prog w) A E s (binarySort' lo n ok) Q (SortSt.mk' κ a pd g none):=by
 refine wpS_bind (wpS_mono (wpS_forRange (I:=fun k c st'=>c=(none,())∧∃b,st'=SortSt.mk' κ b pd g none∧Sx a b lo (lo+n)∧So O key b lo (lo+k)) (Q:=fun c st'=>c=(none,())∧∃b,st'=SortSt.mk' κ b pd g none∧Sx a b lo (lo+n)∧So O key b lo (lo+n)) ?s1 ?s2 ⟨rfl,a,rfl,.refl,by rw[show max ok 1=ok by exact Nat.max_eq_left ‹_›];exact hs⟩) ?s3)
 case s3=>
  rintro c st' ⟨rfl,b,rfl,sb,ss⟩
  exact wpS_pure (h b sb ss)
 case s2=>
  rintro c st' ⟨rfl,b,rfl,sb,ss⟩
  rw[show max (max ok 1) n=n by lia]at ss
  exact⟨rfl,b,rfl,sb,ss⟩
 case s1=>
  rintro k c st' k1 k2 ⟨rfl,b,rfl,sb,ss⟩
  have bz:=sb.size
  have ik:lo+k < b.size:=by lia
  refine wpS_bind (wpS_mono (wpS_forRange (I:=fun x c st'=>st'=SortSt.mk' κ b pd g none∧∃l r,c=(none,l,r)∧l≤r∧r≤k∧r+x≤k+l∧(∀i,i < l→Le O key (at' b (lo+i)) (at' b (lo+k)))∧(∀i,r≤i→i < k→Le O key (at' b (lo+k)) (at' b (lo+i))))
   (Q:=fun c st'=>st'=SortSt.mk' κ b pd g none∧∃l,c=(none,l,l)∧l≤k∧(∀i,i < l→Le O key (at' b (lo+i)) (at' b (lo+k)))∧(∀i,l≤i→i < k→Le O key (at' b (lo+k)) (at' b (lo+i)))) ?t1 ?t2 ⟨rfl,0,k,rfl,by exact Nat.zero_le _,by exact fS _,by(solve_by_elim (maxDepth:=3) only[*,jK,lE,vm,jV,Nat.add_le_add_left,Nat.add_lt_add_left,ov,Nat.lt_of_succ_lt]),fun i hi=>by lia,fun i h1 h2=>by lia⟩) ?t3)
  case t2=>
   rintro c st' ⟨rfl,l,r,rfl,p1,p2,p3,p4,p5⟩
   have:l=r:=by lia
   subst this
   exact⟨rfl,l,rfl,p2,p4,p5⟩
  case t1=>
   rintro x c st' - x2 ⟨rfl,l,r,rfl,p1,p2,p3,p4,p5⟩
   dsimp only
   refine io (fun z=>?_) (fun z=>?_)
   ·have:l=r:=by exact Nat.le_antisymm ‹_› ‹_›
    subst this
    exact wpS_pure ⟨rfl,l,rfl,p2,p4,p5⟩
   ·have im:lo+(l+r) / 2 < b.size:=by lia
    refine wpS_bind (lW C (sb.dom da) ik im ?_)
    cases e:O.blt (key (at' b (lo+k))) (key (at' b (lo+(l+r) / 2)))with
    |true=>exact wpS_pure ⟨rfl,l,(l+r) / 2,rfl,by lia,by lia,by lia,p4,fun i r1 r2=>(Le.of e).trans (ss.le (by exact ov _ _) (by exact Nat.add_le_add_left ‹_› _) (by exact Nat.add_lt_add_left ‹_› _))⟩
    |false=>exact wpS_pure ⟨rfl,(l+r) / 2+1,r,rfl,by lia,by assumption,by lia,fun i r1=>(ss.le (by exact ov _ _) (by lia) (by lia):Le O key (at' b (lo+i)) (at' b (lo+(l+r) / 2))).trans e,p5⟩
  case t3=>
   rintro c st' ⟨rfl,l,rfl,p2,p4,p5⟩
   refine wpS_bind (Dj (wpS_pure ⟨rfl,_,rfl,sb.trans (Sx.bub (k:=lo+k) (n:=lo+k - (lo+l)) ik (by exact Nat.sub_le _ _) (by lia) (by exact Nat.add_lt_add_left ‹_› _)),fun i j r1 r2 r3=>?_⟩))
   have q4:∀i,lo≤i→i < lo+l→Le O key (at' b i) (at' b (lo+k)):=fun i u1 u2=>by have:=p4 (i - lo) (by exact Nat.sub_lt_left_of_lt_add ‹_› ‹_›);rwa [show lo+(i - lo)=i by exact Nat.add_sub_of_le ‹_›]at this
   have q5:∀i,lo+l≤i→i < lo+k→Le O key (at' b (lo+k)) (at' b i):=fun i u1 u2=>by have:=p5 (i - lo) (by exact Nat.le_sub_of_add_le' ‹_›) (by lia);rwa [show lo+(i - lo)=i by exact Nat.add_sub_of_le (jK (ov _ _) ‹_›)]at this
   show Le O key (at' (bubble b (lo+k) (lo+k - (lo+l))) i) (at' (bubble b (lo+k) (lo+k - (lo+l))) j)
   rw[uW ik (by exact Nat.sub_le _ _),uW ik (by exact Nat.sub_le _ _),show lo+k - (lo+k - (lo+l))=lo+l by lia]
   repeat' split
   all_goals first
    |(exfalso;lia)
    |exact q4 _ (by assumption) (by(first |exact Nat.lt_of_lt_of_eq ‹_› ‹_› |lia))
    |exact q5 _ (by(first |exact Nat.add_le_add_left ‹_› _ |lia)) (by lia)
    |exact ss _ _ (by(first |assumption |lia)) (by(first |assumption |lia)) (by lia)
theorem uX(C:Cmp prog w A s κ O key dom){lo nrem:Nat}{Q:Option Nat→SortSt→Prop}(da:∀x∈a.toList,dom x)(h1:1≤nrem)(hz:lo+nrem≤a.size)
  (h:∀m b,1≤m→m≤nrem→Sx a b lo (lo+nrem)→So O key b lo (lo+m)→Q (some m) (SortSt.mk' κ b pd g none)):wpS (model prog w) A E s (countRun' lo nrem) Q (SortSt.mk' κ a pd g none):=by
 refine wpS_bind (B9 (O:=O) (key:=key) (a:=a) (lo:=lo) (n0:=1) (nrem:=nrem) (fS _) h1 (fun i j r1 r2 r3=>by lia) (fun x n R n1 n2 hR=>?_) fun n q1 q2 q3 q4=>?_)
 ·refine wpS_bind (lW C da (show lo+n < a.size by lia) (show lo+n - 1 < a.size by lia) ?_)
  cases e:O.blt (key (at' a (lo+n))) (key (at' a (lo+n - 1)))with
  |true=>rw[e]at hR;exact wpS_pure hR
  |false=>rw[e]at hR;exact wpS_pure hR
 dsimp -zeta only
 by_cases z:(n == nrem)=true
 ·exact bD z (wpS_pure (h n a q1 q2 .refl q3))
 refine bw z ?_
 have z':n < nrem:=by simp at z;exact Nat.lt_of_le_of_ne ‹_› ‹_›
 have sn:=q4 z'
 extract_lets
 rename Unit→_=>jp
 have J:∀b,Sx a b lo (lo+nrem)→Dn O key b lo (lo+n+1)→wpS (model prog w) A E s (jp ()) Q (SortSt.mk' κ b pd g none):=by
  intro b sb db
  refine wpS_bind (wpS_lift (wpAny_rule ⟨rfl,?_⟩))
  refine wpS_bind (wpS_mono (wpS_forRange (I:=fun x c st'=>∃b q,st'=SortSt.mk' κ b pd g none∧Sx a b lo (lo+nrem)∧c=(none,x,q)∧q+1≤x∧n+1≤x∧Dn O key b lo (lo+x)∧Eqs O key b (lo+x) q)
   (Q:=fun c st'=>∃b m q,st'=SortSt.mk' κ b pd g none∧Sx a b lo (lo+nrem)∧c=(none,m,q)∧q+1≤m∧m≤nrem∧Dn O key b lo (lo+m)∧Eqs O key b (lo+m) q) ?s1 ?s2 ⟨b,0,rfl,sb,rfl,by exact rO ‹_›,by exact Nat.lt_succ_self _,db,Eqs.one⟩) ?s3)
  case s2=>
   rintro c st' ⟨b,q,rfl,sb,rfl,p1,p2,p3,p4⟩
   rw[show max (n+1) nrem=nrem by exact Nat.max_eq_right ‹_›]at *
   exact⟨b,nrem,q,rfl,sb,rfl,p1,fS _,p3,p4⟩
  case s1=>
   rintro x c st' x1 x2 ⟨b,q,rfl,sb,rfl,p1,p2,p3,p4⟩
   have bz:=sb.size
   have i1:lo+x < b.size:=by lia
   have i2:lo+x - 1 < b.size:=by exact vm (Nat.sub_le _ _) ‹_›
   refine wpS_bind (lW C (sb.dom da) i1 i2 ?_)
   cases e:O.blt (key (at' b (lo+x))) (key (at' b (lo+x - 1)))with
   |true=>
    dsimp only
    rw[if_pos rfl]
    refine io (fun z=>?_) (fun z=>?_)
    ·refine wpS_bind (vS (wpS_pure ⟨_,0,rfl,sb.trans (Sx.rev (by lia) (by lia) (by exact jV ‹_›)),rfl,by exact Nat.le_add_left _ _,by exact rO ‹_›,?_,Eqs.one⟩))
     refine(p3.rev p4 (by exact jV ‹_›) (by exact Nat.add_lt_add_left ‹_› _)).step (by lia) ?_
     rw[iM (by exact jV ‹_›),iM (by exact jV ‹_›),if_neg (by lia),if_pos (by lia)]
     exact(Le.of e).trans (p4 _ (by lia) (by lia)).2
    ·exact wpS_pure ⟨b,0,rfl,sb,rfl,by exact Nat.le_add_left _ _,by exact rO ‹_›,p3.step (by lia) (Le.of e),Eqs.one⟩
   |false=>
    dsimp only
    rw[if_neg (by simp)]
    refine wpS_bind (lW C (sb.dom da) i2 i1 ?_)
    cases e':O.blt (key (at' b (lo+x - 1))) (key (at' b (lo+x)))with
    |true=>exact wpS_pure ⟨b,x,q,rfl,sb,rfl,p1,by exact jV ‹_›,p3,p4⟩
    |false=>
     refine wpS_pure ⟨b,q+1,rfl,sb,rfl,by exact Nat.succ_lt_succ ‹_›,by exact rO ‹_›,p3.step (by lia) e',fun i r1 r2=>?_⟩
     show Le O key (at' b i) (at' b (lo+x))∧Le O key (at' b (lo+x)) (at' b i)
     by_cases c:i=lo+x
     ·rw[c];exact⟨Le.refl _,Le.refl _⟩
     ·obtain⟨u1,u2⟩:=p4 i (by lia) (by lia)
      exact⟨u1.trans e,Le.trans e' u2⟩
  case s3=>
   rintro c st' ⟨b,m,q,rfl,sb,rfl,p1,p2,p3,p4⟩
   have bz:=sb.size
   dsimp -zeta only
   extract_lets
   rename Unit→_=>jp2
   have J2:∀b,Sx a b lo (lo+nrem)→Dn O key b lo (lo+m)→wpS (model prog w) A E s (jp2 ()) Q (SortSt.mk' κ b pd g none):=by
    intro b sb db
    have bz:=sb.size
    refine wpS_bind (vS ?_)
    have sc:=sb.trans (Sx.rev (a:=b) (i:=lo) (j:=lo+m) (fS lo) (show lo+m≤lo+nrem by exact Nat.add_le_add_left ‹_› _) (by lia))
    have cz:=sc.size
    have ss:=db.flip (by lia)
    revert sc cz ss
    generalize mirror b lo (lo+m) ((lo+m - lo) / 2)=c
    intro sc cz ss
    refine wpS_bind (B9 (O:=O) (key:=key) (a:=c) (lo:=lo) (n0:=m) (nrem:=nrem) (by exact jK (Nat.le_add_left _ _) ‹_›) p2 ss (fun x n R n1 n2 hR=>?_) fun n q1 q2 q3 q4=>?_)
    ·refine wpS_bind (lW C (sc.dom da) (show lo+n < c.size by lia) (show lo+n - 1 < c.size by lia) ?_)
     cases e:O.blt (key (at' c (lo+n))) (key (at' c (lo+n - 1)))with
     |true=>rw[e]at hR;exact wpS_pure hR
     |false=>rw[e]at hR;exact wpS_pure hR
    ·exact wpS_pure (h n c (by lia) q2 sc q3)
   clear_value jp2
   refine io (fun z=>?_) (fun z=>?_)
   ·exact wpS_bind (vS (J2 _ (sb.trans (Sx.rev (a:=b) (i:=lo+m - (q+1)) (j:=lo+m) (by lia) (by exact Nat.add_le_add_left ‹_› _) (by lia))) (Dn.rev (hi:=lo+m) (q:=q) p3 p4 (by lia) (by exact Nat.add_lt_add_left ‹_› _))))
   ·exact J2 b sb p3
 clear_value jp
 refine io (fun c=>?_) (fun c=>?_)
 ·refine wpS_bind (lW C da (show lo < a.size by lia) (show lo+n - 1 < a.size by lia) ?_)
  cases e:O.blt (key (at' a lo)) (key (at' a (lo+n - 1)))with
  |true=>exact wpS_pure (h n a q1 q2 .refl q3)
  |false=>
   refine wpS_bind (vS (J _ (Sx.rev (fS _) (by exact Nat.add_le_add_left ‹_› _) (by lia)) fun i j r1 r2 r3=>?_))
   have all:∀x y,lo≤x→x < lo+n→lo≤y→y < lo+n→Le O key (at' a x) (at' a y):=fun x y x1 x2 y1 y2=>
    ((q3.le x1 (by lia) (by lia):Le O key (at' a x) (at' a (lo+n - 1))).trans e).trans (q3.le (fS _) y1 y2)
   rw[iM (by lia),iM (by lia),if_pos (show lo≤i∧i < lo+n by lia)]
   by_cases c':j < lo+n
   ·rw[if_pos (by lia)]
    exact all _ _ (by lia) (by lia) (by lia) (by lia)
   ·rw[if_neg (by exact fun h=>‹¬_› h.2),show j=lo+n by lia]
    exact(Le.of sn).trans (all _ _ (by lia) (by lia) (by lia) (by lia))
 ·refine J a .refl fun i j r1 r2 r3=>?_
  rw[show i=lo+n - 1 by lia,show j=lo+n by lia]
  exact Le.of sn
end
end NhLS
namespace NhLS
set_option autoImplicit false
open PySem PyProof.Rows
def Ch(O:KeyOrd)(key:Keyed→O.α)(a:Array Keyed):List (Nat×Nat×Nat)→Nat→Nat→Prop
 |[],p,e=>p=e
 |t::l,p,e=>t.1=p∧1≤t.2.1∧So O key a p (p+t.2.1)∧Ch O key a l (p+t.2.1) e
section
variable {O:KeyOrd} {key:Keyed→O.α} {a b:Array Keyed}
theorem Ch.app:∀{l l':List (Nat×Nat×Nat)} {p e:Nat},Ch O key a (l++l') p e→∃m,Ch O key a l p m∧Ch O key a l' m e
 |[],_,p,e,h=>⟨p,rfl,h⟩
 |t::l,_,p,e,h=>by
  obtain⟨m,h1,h2⟩:=Ch.app h.2.2.2
  exact⟨m,⟨h.1,h.2.1,h.2.2.1,h1⟩,h2⟩
theorem Ch.join:∀{l l':List (Nat×Nat×Nat)} {p m e:Nat},Ch O key a l p m→Ch O key a l' m e→Ch O key a (l++l') p e
 |[],_,p,m,e,h1,h2=>by rw[show p=m from h1];exact h2
 |t::l,_,p,m,e,h1,h2=>⟨h1.1,h1.2.1,h1.2.2.1,Ch.join h1.2.2.2 h2⟩
theorem Ch.le:∀{l:List (Nat×Nat×Nat)} {p e:Nat},Ch O key a l p e→p+l.length≤e
 |[],p,e,h=>by rw[show p=e from h];exact fS _
 |t::l,p,e,h=>by
  have:=Ch.le h.2.2.2
  have:=h.2.1
  rw[List.length_cons]
  lia
theorem Ch.ext:∀{l:List (Nat×Nat×Nat)} {p e:Nat},Ch O key a l p e→(∀j,p≤j→j < e→at' b j=at' a j)→Ch O key b l p e
 |[],p,e,h,_=>h
 |t::l,p,e,h,q=>by
  have:=Ch.le h.2.2.2
  exact⟨h.1,h.2.1,h.2.2.1.ext fun j h1 h2=>q j h1 (by lia),Ch.ext h.2.2.2 fun j h1 h2=>q j (by exact jK (ov _ _) ‹_›) h2⟩
theorem Ch.map:∀{l l':List (Nat×Nat×Nat)} {p e:Nat},Ch O key a l p e→l'.map (fun t=>(t.1,t.2.1))=l.map (fun t=>(t.1,t.2.1))→Ch O key a l' p e
 |[],l',p,e,h,q=>by
  cases l' with
  |nil=>exact h
  |cons _ _=>simp at q
 |t::l,l',p,e,h,q=>by
  cases l' with
  |nil=>simp at q
  |cons t' l'=>
   simp only[ce,List.cons.injEq,Prod.mk.injEq]at q
   refine⟨q.1.1.trans h.1,by rw[q.1.2];exact h.2.1,by rw[q.1.2];exact h.2.2.1,?_⟩
   rw[q.1.2]
   exact Ch.map h.2.2.2 q.2
theorem AW(f:Nat×Nat×Nat→Nat×Nat×Nat)(hf:∀t,(f t).1=t.1∧(f t).2.1=t.2.1)(l:List (Nat×Nat×Nat))(k:Nat):(l.modify k f).map (fun t=>(t.1,t.2.1))=l.map (fun t=>(t.1,t.2.1)):=by
 refine List.ext_getElem? fun j=>?_
 rw[we,we,List.getElem?_modify]
 cases l[j]? with
 |none=>rfl
 |some t=>
  by_cases e:k=j
  ·simp[e,hf t]
  ·simp[e]
theorem Ch.one{p n w:Nat}(h:So O key a p (p+n))(h1:1≤n):Ch O key a [(p,n,w)] p (p+n):=⟨rfl,h1,h,rfl⟩
end
section
variable {prog:Program} {w:World} {A:Around} {E:Value→Shared→Prop} {s:Shared} {κ:SortKind} {O:KeyOrd} {key:Keyed→O.α} {dom:Keyed→Prop} {a:Array Keyed} {pd:Array (Nat×Nat×Nat)} {g:Nat}
theorem pM(C:Cmp prog w A s κ O key dom){i lo:Nat}{Q:Bool→SortSt→Prop}(da:∀x∈a.toList,dom x)(hi:i+1 < pd.size)(hz:lo≤a.size)(hc:Ch O key a pd.toList 0 lo)
  (h:∀b pd' g',b.toList.Perm a.toList→(∀j,lo≤j→at' b j=at' a j)→Ch O key b pd'.toList 0 lo→pd'.size+1=pd.size→Q true (SortSt.mk' κ b pd' g' none)):wpS (model prog w) A E s (mergeAt' i) Q (SortSt.mk' κ a pd g none):=by
 have el:pd.toList=pd.toList.take i++(pd[i]::pd[i+1]::pd.toList.drop (i+2)):=by
  conv=>lhs;rw[←List.take_append_drop i pd.toList]
  congr 1
  rw[List.drop_eq_getElem_cons (by simp;exact Nat.lt_of_succ_lt ‹_›),List.drop_eq_getElem_cons (by simp;assumption)]
  simp
 have e1:pd[i]? =some pd[i]:=getElem?_pos ..
 have e2:pd[i+1]? =some pd[i+1]:=getElem?_pos ..
 revert el e1 e2
 generalize pd[i]=t1
 generalize pd[i+1]=t2
 intro el e1 e2
 obtain⟨sa,na,w1⟩:=t1
 obtain⟨sb,nb,w2⟩:=t2
 have li:(pd.toList.take i).length=i:=by simp;lia
 revert el li
 generalize pd.toList.take i=pre
 generalize pd.toList.drop (i+2)=post
 intro el li
 rw[el]at hc
 obtain⟨m,c1,c2⟩:=hc.app
 obtain⟨u1,u2,u3,v1,v2,v3,c3⟩:=c2
 simp only at u1 u2 u3 v1 v2 v3 c3
 subst u1
 subst v1
 have le3:=c3.le
 refine xb C (fun i hi=>da _ (ke hi)) e1 e2 u2 v2 (by lia) u3 v3 fun b g' pb ob sb=>h b _ g' pb (fun j hj=>ob j (.inr (by lia))) ?_ ?_
 ·have:((pd.setIfInBounds i (sa,na+nb,w1)).eraseIdxIfInBounds (i+1)).toList=pre++((sa,na+nb,w1)::post):=by
   have hs:i+1 < (pd.setIfInBounds i (sa,na+nb,w1)).size:=by simpa using hi
   rw[Array.eraseIdxIfInBounds,dif_pos hs,Array.toList_eraseIdx,Array.toList_setIfInBounds,el]
   subst li
   simp[List.eraseIdx_append_of_length_le]
  rw[this]
  refine(c1.ext fun j _ hj=>ob j (.inl hj)).join ⟨rfl,by show 1≤na+nb;exact Nat.lt_add_right _ ‹_›,by rw[←Nat.add_assoc];exact sb,?_⟩
  show Ch O key b post (sa+(na+nb)) lo
  rw[←Nat.add_assoc]
  exact c3.ext fun j hj _=>ob j (.inr hj)
 ·have hs:i+1 < (pd.setIfInBounds i (sa,na+nb,w1)).size:=by simpa using hi
  rw[Array.eraseIdxIfInBounds,dif_pos hs,Array.size_eraseIdx]
  simp
  lia
theorem yS{c:Prop}[Decidable c]{x y:Nat}{Q:Bool→SortSt→Prop}{st:SortSt}(h:∀i,i=x∨i=y→wpS (model prog w) A E s (mergeAt' i) Q st):wpS (model prog w) A E s (mergeAt' (if c then x else y)) Q st:=by
 split
 ·exact h _ (.inl rfl)
 ·exact h _ (.inr rfl)
theorem uY(C:Cmp prog w A s κ O key dom){Q:Unit→SortSt→Prop}(da:∀x∈a.toList,dom x)(h:∀b pd' g',b.toList.Perm a.toList→So O key b 0 a.size→Q () (SortSt.mk' κ b pd' g' none)):wpS (model prog w) A E s sortRuns' Q (SortSt.mk' κ a #[] g none):=by
 refine wpS_bind (wpS_get ?_)
 refine wpS_bind (wpS_mono (wpS_forRange (I:=fun x c st'=>∃b lo pd g,st'=SortSt.mk' κ b pd g none∧b.toList.Perm a.toList∧c=(none,lo)∧lo≤a.size∧(x≤lo∨lo=a.size)∧Ch O key b pd.toList 0 lo)
  (Q:=fun c st'=>∃b pd g,st'=SortSt.mk' κ b pd g none∧b.toList.Perm a.toList∧c=(none,a.size)∧Ch O key b pd.toList 0 a.size) ?s1 ?s2 ⟨a,0,#[],g,rfl,List.Perm.refl _,rfl,by exact Nat.zero_le _,by(solve_by_elim (maxDepth:=3) only[*,jK,lE,vm,jV]),rfl⟩) ?s3)
 case s2=>
  rintro c st' ⟨b,lo,pd,g,rfl,p1,rfl,p2,p3,p4⟩
  have:lo=a.size:=by
   rcases p3 with p3 |p3
   ·have p3':max 0 a.size≤lo:=p3
    exact Nat.le_antisymm ‹_› ‹_›
   ·exact p3
  subst this
  exact⟨b,pd,g,rfl,p1,rfl,p4⟩
 case s1=>
  rintro x c st' - x2 ⟨b,lo,pd,g,rfl,p1,rfl,p2,p3,p4⟩
  have bz:b.size=a.size:=by have:=p1.length_eq;simpa using this
  refine Dh fun R hR=>?_
  have Rd:∀b pd g,b.toList.Perm a.toList→Ch O key b pd.toList 0 a.size→R (.done (none,a.size)) (SortSt.mk' κ b pd g none):=fun b pd g q1 q2=>by rw[hR];exact⟨b,pd,g,rfl,q1,rfl,q2⟩
  have Ry:∀b lo pd g,b.toList.Perm a.toList→lo≤a.size→(x+1≤lo∨lo=a.size)→Ch O key b pd.toList 0 lo→R (.yield (none,lo)) (SortSt.mk' κ b pd g none):=fun b lo pd g q1 q2 q3 q4=>by rw[hR];exact⟨b,lo,pd,g,rfl,q1,rfl,q2,q3,q4⟩
  clear hR
  dsimp -zeta only
  extract_lets
  refine io (fun z=>?_) (fun z=>?_)
  ·have:lo=a.size:=by exact Nat.le_antisymm ‹_› ‹_›
   subst this
   exact wpS_pure (Rd b pd g p1 p4)
  have z':lo < a.size:=by exact Nat.lt_of_not_le ‹_›
  refine wpS_bind (uX C (fun x hx=>da x (p1.mem_iff.mp hx)) (lo:=lo) (nrem:=a.size - lo) (by exact Nat.sub_pos_of_lt ‹_›) (by lia) fun n c n1 n2 sc ss=>?_)
  dsimp -zeta only
  extract_lets
  rename Unit→Nat→_=>jp
  have J:∀(n:Nat) (c:Array Keyed),1≤n→n≤a.size - lo→Sx b c lo (lo+(a.size - lo))→So O key c lo (lo+n)→wpS (model prog w) A E s (jp () n) R (SortSt.mk' κ c pd g none):=by
   intro n c n1 n2 sc ss
   have cp:c.toList.Perm a.toList:=sc.perm.trans p1
   have ch:Ch O key c pd.toList 0 lo:=p4.ext fun j _ hj=>sc.out j (.inl hj)
   refine wpS_bind (wpS_get ?_)
   dsimp -zeta only
   extract_lets
   rename Unit→_=>jq
   have K:∀c pd g,c.toList.Perm a.toList→Ch O key c pd.toList 0 lo→So O key c lo (lo+n)→wpS (model prog w) A E s (jq ()) R (SortSt.mk' κ c pd g none):=by
    intro c pd g cp ch ss
    refine wpS_bind (wpS_modify (wpS_pure (Ry c (lo+n) (pd.push (lo,n,0)) g cp (by lia) (by lia) ?_)))
    rw[Array.toList_push]
    exact ch.join (Ch.one ss n1)
   clear_value jq
   cases eb:pd.back? with
   |none=>exact K c pd g cp ch ss
   |some t=>
    dsimp -zeta only
    refine wpS_bind (wpS_mono (wpS_forRange (I:=fun x r st'=>r=(none,())∧∃c pd g,st'=SortSt.mk' κ c pd g none∧c.toList.Perm a.toList∧Ch O key c pd.toList 0 lo∧So O key c lo (lo+n))
     (Q:=fun r st'=>r=(none,())∧∃c pd g,st'=SortSt.mk' κ c pd g none∧c.toList.Perm a.toList∧Ch O key c pd.toList 0 lo∧So O key c lo (lo+n)) ?t1 (fun _ _ q=>q) ⟨rfl,c,pd,g,rfl,cp,ch,ss⟩) ?t3)
    case t3=>
     rintro r st' ⟨rfl,c,pd,g,rfl,cp,ch,ss⟩
     refine wpS_bind (wpS_modify (K c _ g cp (ch.map ?_) ss))
     rw[Array.toList_modify]
     refine AW _ ?_ _ _
     exact fun _=>⟨rfl,rfl⟩
    case t1=>
     rintro y r st' - - ⟨rfl,c,pd,g,rfl,cp,ch,ss⟩
     refine wpS_bind (wpS_get ?_)
     dsimp only
     by_cases pz:pd.size > 1
     ·rw[if_pos pz,getElem?_pos pd (pd.size - 2) (by lia)]
      refine io (fun _=>?_) (fun _=>?_)
      ·exact wpS_pure ⟨rfl,c,pd,g,rfl,cp,ch,ss⟩
      ·have cz:c.size=a.size:=by have:=cp.length_eq;simpa using this
       refine wpS_bind (pM C (fun x hx=>da x (cp.mem_iff.mp hx)) (i:=pd.size - 2) (lo:=lo) (by lia) (by lia) ch fun d pd' g' dp od dc _=>?_)
       exact wpS_pure ⟨rfl,d,pd',g',rfl,dp.trans cp,dc,ss.ext fun j j1 _=>od j j1⟩
     ·rw[if_neg pz]
      exact wpS_pure ⟨rfl,c,pd,g,rfl,cp,ch,ss⟩
  clear_value jp
  refine io (fun y=>?_) (fun y=>?_)
  ·refine wpS_bind (wpS_lift (wpAny_rule ⟨rfl,?_⟩))
   have cz:=sc.size
   refine wpS_bind (qX C (a:=c) (lo:=lo) (n:=min (a.size - lo) (minRun' a.size a.size 0)) (ok:=n) (fun x hx=>da x (p1.mem_iff.mp (sc.perm.mem_iff.mp hx))) n1 (by have y':n < minRun' a.size a.size 0:=y;lia) (by lia) ss fun d sd ds=>?_)
   refine bw (by simp) ?_
   exact J _ d (by have y':n < minRun' a.size a.size 0:=y;lia) (by lia) (sc.trans ⟨sd.perm,fun j hj=>sd.out j (by lia)⟩) ds
  ·exact J n c n1 n2 sc ss
 case s3=>
  rintro c st' ⟨b,pd,g,rfl,p1,rfl,p2⟩
  refine wpS_bind (wpS_mono (wpS_forRange (I:=fun x r st'=>r=(none,())∧∃c pd g,st'=SortSt.mk' κ c pd g none∧c.toList.Perm a.toList∧Ch O key c pd.toList 0 a.size∧(pd.size+x≤a.size∨pd.size≤1))
   (Q:=fun r st'=>r=(none,())∧∃c pd g,st'=SortSt.mk' κ c pd g none∧c.toList.Perm a.toList∧Ch O key c pd.toList 0 a.size∧pd.size≤1) ?t1 ?t2 ⟨rfl,b,pd,g,rfl,p1,p2,.inl (by have:=p2.le;simp at this;assumption)⟩) ?t3)
  case t2=>
   rintro r st' ⟨rfl,c,pd,g,rfl,cp,ch,hz⟩
   refine⟨rfl,c,pd,g,rfl,cp,ch,?_⟩
   rcases hz with hz |hz
   ·have hz':pd.size+max 0 a.size≤a.size:=hz
    lia
   ·exact hz
  case t1=>
   rintro y r st' - - ⟨rfl,c,pd,g,rfl,cp,ch,hz⟩
   refine wpS_bind (wpS_get ?_)
   refine io (fun z=>?_) (fun z=>?_)
   ·exact wpS_pure ⟨rfl,c,pd,g,rfl,cp,ch,z⟩
   ·have z':1 < pd.size:=Nat.lt_of_not_le z
    have cz:c.size=a.size:=by have:=cp.length_eq;simpa using this
    extract_lets
    refine wpS_bind (yS fun i hi=>?_)
    refine pM C (fun x hx=>da x (cp.mem_iff.mp hx)) (i:=i) (lo:=a.size) ?_ (by exact Nat.le_of_eq (Eq.symm ‹_›)) ch fun d pd' g' dp od dc dz=>?_
    ·rcases hi with rfl |rfl
     ·show pd.size - 2 - 1+1 < pd.size
      lia
     ·show pd.size - 2+1 < pd.size
      lia
    ·exact wpS_pure ⟨rfl,d,pd',g',rfl,dp.trans cp,dc,by lia⟩
  case t3=>
   rintro r st' ⟨rfl,c,pd,g,rfl,cp,ch,hz⟩
   refine wpS_pure (h c pd g cp ?_)
   obtain⟨l⟩:=pd
   match l,hz,ch with
   |[],_,ch=>
    have:0=a.size:=ch
    rw[←this]
    exact fun i j _ _ q=>by lia
   |[t],_,ch=>
    obtain⟨_,_,s1,e⟩:=ch
    have e':0+t.2.1=a.size:=e
    rw[e']at s1
    exact s1
   |_::_::_,hz,_=>simp at hz
end
end NhLS
namespace NhSG
set_option autoImplicit false
open PySem PyProof PyProof.Rows PySem.W
abbrev Ky:=Int×List Nat
def gC(a b:Ky):Bool:=decide (a.1 < b.1)||(decide (a.1=b.1)&&decide (a.2 < b.2))
theorem ltKy_iff{a b:Ky}:gC a b=true↔a.1 < b.1∨(a.1=b.1∧a.2 < b.2):=by simp[gC]
theorem qY{a b:Ky}:gC a b=false↔¬(a.1 < b.1∨(a.1=b.1∧a.2 < b.2)):=by rw[←ltKy_iff];simp
def nV(hp:Heap):Value→Option Ky
 |.ref a=>(hp.get? a).bind fun o=>match o.data with
  |.seq xs _=>match xs.toList with
   |[.int n _,.str z _]=>some (n,z.cps.toList)
   |_=>none
  |_=>none
 |_=>none
theorem AY{hp:Heap}{a:Addr}{o:Obj}{xs:Array Value}{k:Nat}{n:Int}{t u:Tok}{z:Str}(ho:hp.get? a=some o)(hd:o.data=.seq xs k)(hx:xs.toList=[.int n t,.str z u]):nV hp (.ref a)=some (n,z.cps.toList):=by
 simp[nV,ho,hd,hx]
theorem vT{hp:Heap}{v:Value}{y:Ky}(h:nV hp v=some y):∃a o xs k t z u,v=.ref a∧hp.get? a=some o∧o.data=.seq xs k∧xs.toList=[.int y.1 t,.str z u]∧y.2=z.cps.toList:=by
 unfold nV at h
 split at h
 ·rename_i a
  obtain⟨o,ho,h⟩:=Za.mp h
  split at h
  ·rename_i xs k hd
   split at h
   ·rename_i n t z u hx
    cases h
    exact⟨a,o,xs,k,t,z,u,rfl,ho,hd,hx,rfl⟩
   ·cases h
  ·cases h
 ·cases h
@[reducible] def fV (hp:Heap):PyProof.Rows.KeyKind where
 α:=Ky
 blt:=gC
 irrefl a:=by
  rw[qY]
  rintro(h |h)
  ·omega
  ·exact List.lt_irrefl _ h.2
 trans a b c h1 h2:=by
  rw[ltKy_iff]at *
  rcases h1 with h1 |h1
  ·rcases h2 with h2 |h2
   ·exact .inl (by omega)
   ·exact .inl (by omega)
  ·rcases h2 with h2 |h2
   ·exact .inl (by omega)
   ·exact .inr ⟨by omega,List.lt_trans h1.2 h2.2⟩
 negTrans a b c h:=by
  rw[ltKy_iff]at *
  rw[ltKy_iff]
  by_cases hab:a.1 < b.1
  ·exact .inl (.inl hab)
  ·by_cases hbc:b.1 < c.1
   ·exact .inr (.inl hbc)
   ·have e:a.1=c.1∧a.2 < c.2:=by
     rcases h with h |h
     ·omega
     ·exact h
    by_cases hab2:a.2 < b.2
    ·exact .inl (.inr ⟨by omega,hab2⟩)
    ·exact .inr (.inr ⟨by omega,List.lt_of_le_of_lt (List.not_lt.mp hab2) e.2⟩)
 total a b h1 h2:=by
  rw[qY]at *
  have e:a.1=b.1:=by
   have n1:¬a.1 < b.1:=fun z=>h1 (.inl z)
   have n2:¬b.1 < a.1:=fun z=>h2 (.inl z)
   omega
  have e2:a.2=b.2:=List.le_antisymm (List.not_lt.mp fun z=>h2 (.inr ⟨e.symm,z⟩)) (List.not_lt.mp fun z=>h1 (.inr ⟨e,z⟩))
  exact Prod.ext e e2
 keyOf:=nV hp
 dflt:=(0,[])
def Go(prog:Program)(w:World)(A:Around)(κ:PyProof.Rows.KeyKind)(kd:SortKind)(s:Shared):Prop:=
 ∀(E:Value→Shared→Prop) (x y:Value) (a b:κ.α) {Q:Bool→Shared→Prop},κ.keyOf x=some a→κ.keyOf y=some b→Q (κ.blt a b) s→wpAny (model prog w) A (keyLt' kd x y) Q E s
theorem AZ{prog:Program}{w:World}{A:Around}{s:Shared}:Go prog w A (fV s.heap) (tuples' true) s:=fun E x y a b Q ha hb hq=>by
 obtain⟨ax,ox,xs,kx,tx,zx,ux,rfl,hox,hdx,hxx,ea⟩:=vT ha
 obtain⟨ay,oy,ys,ky,ty,zy,uy,rfl,hoy,hdy,hyy,eb⟩:=vT hb
 refine kat_lt hox hdx hoy hdy ?_
 have fin:decide (xs.size < ys.size)=false:=by
  have l1:xs.size=2:=by rw[←Zb,hxx];rfl
  have l2:ys.size=2:=by rw[←Zb,hyy];rfl
  rw[l1,l2]
  rfl
 rw[hxx,hyy,fin]
 show KatLex prog w A true false Q [(.int a.1 tx,.int b.1 ty),(.str zx ux,.str zy uy)] 0 s
 refine kat_cons (wpAny_eqBool_int (kat_go (fun e1=>kat_yes (kat_cons (wpAny_eqBool_str (kat_go (fun e2=>kat_yes (kat_nil ?_)) (fun e2=>kat_no ?_))))) (fun e1=>kat_no ?_)))
 ·have e1:a.1=b.1:=by simpa using e1
  have e2:zx=zy:=by simpa using e2
  have:gC a b=false:=by
   rw[qY,ea,eb,e2]
   rintro(z |z)
   ·omega
   ·exact List.lt_irrefl _ z.2
  rw[←this]
  exact hq
 ·have e1:a.1=b.1:=by simpa using e1
  show wpAny (model prog w) A (oneLt' false (.str zx ux) (.str zy uy)) Q _ s
  refine kat_one _ _ (PySem.P.lt_str ?_)
  have:gC a b=decide (zx.cps.toList < zy.cps.toList):=by
   unfold gC
   rw[←ea,←eb]
   simp[e1]
  have hq':Q (gC a b) s:=hq
  rw[this]at hq'
  exact hq'
 ·have e1:¬a.1=b.1:=by simpa using e1
  show wpAny (model prog w) A (oneLt' true (.int a.1 tx) (.int b.1 ty)) Q _ s
  refine oneLt_int ?_
  have:gC a b=decide (a.1 < b.1):=by
   unfold gC
   simp[e1]
  have hq':Q (gC a b) s:=hq
  rw[this]at hq'
  exact hq'
end NhSG
namespace NhSG
set_option autoImplicit false
open PySem PyProof PyProof.Rows PySem.W
def Keep(h h':Heap):Prop:=∀b o,h.get? b=some o→h'.get? b=some o
theorem Keep.refl(h:Heap):Keep h h:=fun _ _ e=>e
theorem Keep.trans{h h1 h2:Heap}(a:Keep h h1)(b:Keep h1 h2):Keep h h2:=fun c o e=>b c o (a c o e)
def IsKy(hp:Heap)(v:Value)(y:Ky):Prop:=∃c o xs k t z u,v=.ref c∧hp.get? c=some o∧o.cls=.type "tuple"∧o.data=.seq xs k∧xs.toList=[.int y.1 t,.str z u]∧y.2=z.cps.toList
theorem IsKy.keep{h h':Heap}{v:Value}{y:Ky}(a:IsKy h v y)(k:Keep h h'):IsKy h' v y:=by
 obtain⟨c,o,xs,n,t,z,u,e,ho,r⟩:=a
 exact⟨c,o,xs,n,t,z,u,e,k c o ho,r⟩
theorem IsKy.key{h:Heap}{v:Value}{y:Ky}(a:IsKy h v y):nV h v=some y:=by
 obtain⟨c,o,xs,n,t,z,u,rfl,ho,hc,hd,hx,e⟩:=a
 rw[AY ho hd hx,←e]
def KA(hp:Heap):List Value→List Ky→Prop
 |[],[]=>True
 |v::vs,y::ys=>IsKy hp v y∧KA hp vs ys
 |_,_=>False
theorem KA.keep{h h':Heap}(k:Keep h h'):∀{vs:List Value} {ys:List Ky},KA h vs ys→KA h' vs ys
 |[],[],_=>trivial
 |v::vs,y::ys,a=>⟨a.1.keep k,KA.keep k a.2⟩
 |[],_::_,a=>a.elim
 |_::_,[],a=>a.elim
theorem KA.len{h:Heap}:∀{vs:List Value} {ys:List Ky},KA h vs ys→vs.length=ys.length
 |[],[],_=>rfl
 |v::vs,y::ys,a=>by simp[KA.len a.2]
 |[],_::_,a=>a.elim
 |_::_,[],a=>a.elim
theorem KA.snoc{h:Heap}{v:Value}{y:Ky}(b:IsKy h v y):∀{vs:List Value} {ys:List Ky},KA h vs ys→KA h (vs++[v]) (ys++[y])
 |[],[],_=>⟨b,trivial⟩
 |_::_,_::_,a=>⟨a.1,KA.snoc b a.2⟩
 |[],_::_,a=>a.elim
 |_::_,[],a=>a.elim
theorem KA.tups{h:Heap}:∀{vs:List Value} {ys:List Ky},KA h vs ys→∃fs,KatTups h vs fs∧(∀f∈fs,∃n t,f=.int n t)∧fs.length=vs.length
 |[],[],_=>⟨[],trivial,(fun _ z=>by cases z),rfl⟩
 |v::vs,y::ys,a=>by
  obtain⟨fs,t,hf,hl⟩:=KA.tups a.2
  obtain⟨c,o,xs,n,tk,z,u,rfl,ho,hc,hd,hx,e⟩:=a.1
  refine⟨.int y.1 tk::fs,KatTups.cons ho hc hd ?_ t,fun f hm=>?_,by simp[hl]⟩
  ·rw[←Array.getElem?_toList,hx]
   rfl
  ·rcases Zaq.mp hm with rfl |hm
   ·exact⟨_,_,rfl⟩
   ·exact hf f hm
 |[],_::_,a=>a.elim
 |_::_,[],a=>a.elim
theorem KA.at{h:Heap}:∀{ks:List Value} {ys:List Ky} {i:Nat},KA h ks ys→i < ks.length→nV h (ks.getD i Value.none)=some (ys.getD i (0,[]))
 |k::ks,y::ys,0,a,_=>a.1.key
 |k::ks,y::ys,i+1,a,hi=>by
  have:=KA.at (i:=i) a.2 (by simpa using hi)
  simpa using this
 |[],_,_,_,hi=>by simp at hi
 |_::_,[],_,a,_=>a.elim
def xc(ys:List Ky)(vs out:List Value):Prop:=∃ps:List (Ky×Value),ps.Perm (ys.zip vs)∧ps.Pairwise (fun p q=>gC q.1 p.1=false)∧out=ps.map (·.2)
@[reducible] def sY (h:Heap) (p:Keyed):Ky:=(nV h p.1).getD (0,[])
theorem FS{prog:Program}{w:World}{A:Around}{s:Shared}:NhLS.Cmp prog w A s (tuples' true) (fV s.heap).toKeyOrd (sY s.heap) (fun p=>∃y,nV s.heap p.1=some y):=
 ⟨fun E x y Q ⟨a,ha⟩ ⟨b,hb⟩ hq=>by
  have hq':Q (gC (sY s.heap x) (sY s.heap y)) s:=hq
  unfold sY at hq'
  rw[ha,hb]at hq'
  exact AZ E x.1 y.1 a b ha hb hq'⟩
theorem KA.zip{h:Heap}:∀{ks:List Value} {ys:List Ky} {vs:List Value},KA h ks ys→(ks.zip vs).map (fun p=>(sY h p,p.2))=ys.zip vs
 |[],[],_,_=>by simp
 |k::ks,y::ys,[],_=>by simp
 |k::ks,y::ys,v::vs,a=>by
  simp only[List.zip_cons_cons,ce]
  rw[KA.zip a.2]
  congr 1
  show((nV h k).getD (0,[]),v)=(y,v)
  rw[a.1.key]
  rfl
 |[],_::_,_,a=>a.elim
 |_::_,[],_,a=>a.elim
theorem KA.dom{h:Heap}{vs:List Value}:∀{ks:List Value} {ys:List Ky},KA h ks ys→∀p∈ks.zip vs,∃y,nV h p.1=some y:=fun {ks ys} a p hp=>by
 have hk:p.1∈ks:=(List.of_mem_zip hp).1
 clear hp
 induction ks generalizing ys with
 |nil=>cases hk
 |cons k ks ih=>cases ys with
  |nil=>exact a.elim
  |cons y ys=>
   rcases Zaq.mp hk with e |hk
   ·rw[e];exact⟨y,a.1.key⟩
   ·exact ih a.2 hk
theorem Dk{h:Heap}{ks:List Value}{ys:List Ky}{vs:List Value}{b:Array Keyed}(hK:KA h ks ys)(hp:b.toList.Perm (ks.zip vs))(hs:NhLS.So (fV h).toKeyOrd (sY h) b 0 b.size):xc ys vs (b.map (·.2)).toList:=by
 refine⟨b.toList.map (fun p=>(sY h p,p.2)),?_,?_,?_⟩
 ·rw[←hK.zip (vs:=vs)]
  exact hp.map _
 ·rw[List.pairwise_map,List.pairwise_iff_getElem]
  intro i j hi hj hij
  rw[NhLS.iC,NhLS.iC]
  exact hs i j (Nat.zero_le _) hij (by simpa using hj)
 ·rw[Array.toList_map,List.map_map]
  rfl
section
variable {prog:Program} {w:World} {A:Around} {E:Value→Shared→Prop} {s:Shared} {a kS:Addr} {ks vs:List Value} {ys:List Ky} {e e1:Nat} {P:PySem.Fin→Shared→Prop}
theorem vU {st:SortSt} (hk:s.heap.get? kS=some (seqObj "list" ks.toArray e)) (ha:s.heap.get? a=some (seqObj "list" #[] e1)) (hka:kS≠a) (h64:vs.length < 65536) (hl:ks.length=vs.length) (hn:(arrOf st).size=vs.length) (hfl:failedOf st=none)
  (h:∀h' tk c,h'.get? a=some (seqObj "list" ((arrOf st).map (·.2)) c)→(∀b o,b≠a→b≠kS→s.heap.get? b=some o→h'.get? b=some o)→P (.done (.ret .none)) {s with heap:=h',toks:=tk}):
  wpAny (model prog w) A (ksk_tail a false e1 (.ref kS) st) P E s:=by
 have s1:=Heap.SameBut.update s.heap kS (Obj.mapSeq fun _=>(#[]:Array Value))
 have na1:(s.heap.update kS (Obj.mapSeq fun _=>(#[]:Array Value))).get? a=some (seqObj "list" #[] e1):=(s1.2 a hka.symm).trans ha
 have s2:=Heap.SameBut.update (s.heap.update kS (Obj.mapSeq fun _=>(#[]:Array Value))) a (Obj.mapSeq fun _=>(arrOf st).map (·.2))
 obtain⟨c2,hc2⟩:∃c2,((s.heap.update kS (Obj.mapSeq fun _=>(#[]:Array Value))).update a (Obj.mapSeq fun _=>(arrOf st).map (·.2))).get? a=some (seqObj "list" ((arrOf st).map (·.2)) c2):=⟨_,get?_update_seq na1 fun _=>(arrOf st).map (·.2)⟩
 unfold ksk_tail
 try dsimp only
 refine wpAny_bind (listUpdate_at hk rfl ?_ (by rw[kB,sizeLine_eq];omega) (Nat.zero_le _))
 refine wpAny_bind (wpAny_letGo ?_)
 refine wpAny_bind (seqEpoch_at na1 rfl ?_)
 simp only[bB]
 refine wpAny_bind (listUpdate_at na1 rfl ?_ (Nat.zero_le _) (by rw[Array.size_map,hn,sizeLine_eq];omega))
 rw[hfl]
 simp only[bne_self_eq_false,bB]
 exact wpAny_pure (h _ _ c2 hc2 fun b o h1 h2 q=>(s2.2 b h1).trans ((s1.2 b h2).trans q))
theorem Dl (hK:KA s.heap ks ys) (hk:s.heap.get? kS=some (seqObj "list" ks.toArray e)) (ha:s.heap.get? a=some (seqObj "list" #[] e1)) (hka:kS≠a) (h64:vs.length < 65536) (hl:ks.length=vs.length)
  (h:∀h' tk out c,h'.get? a=some (seqObj "list" out c)→xc ys vs out.toList→(∀b o,b≠a→b≠kS→s.heap.get? b=some o→h'.get? b=some o)→P (.done (.ret .none)) {s with heap:=h',toks:=tk}):
  wpAny (model prog w) A (ksk_end a false vs.toArray e1 (.ref kS) ks.toArray) P E s:=by
 have hzs:(ks.toArray.zip vs.toArray).size=vs.length:=by rw[Array.size_zip,kB,kB,hl,Nat.min_self]
 unfold ksk_end
 try dsimp only
 simp only[bB]
 by_cases h2:vs.toArray.size < 2
 ·rw[if_pos h2,if_pos h2]
  refine wpAny_bind (wpAny_pure ?_)
  rw[StateT.run_pure]
  refine wpAny_bind (wpAny_pure ?_)
  try dsimp only
  refine vU (st:=SortSt.mk' general' (ks.toArray.zip vs.toArray) #[] 7 none) hk ha hka h64 hl hzs rfl fun h' tk c h1 h3=>h h' tk _ c h1 ⟨ys.zip vs,List.Perm.refl _,?_,?_⟩ h3
  ·rw[kB]at h2
   rw[List.pairwise_iff_getElem]
   intro i j hi hj hij
   simp at hj
   omega
  ·have e1:(ys.zip vs).map (·.2)=vs:=by rw[List.map_snd_zip];have:=hK.len;omega
   have e2:((arrOf (SortSt.mk' general' (ks.toArray.zip vs.toArray) #[] 7 none)).map (·.2)).toList=(ks.zip vs).map (·.2):=by
    show((ks.toArray.zip vs.toArray).map (·.2)).toList=_
    simp
   rw[e1,e2,List.map_snd_zip]
   omega
 ·rw[if_neg h2,if_neg h2]
  rw[kB]at h2
  obtain⟨fs,tt,hf,lf⟩:=hK.tups
  refine wpAny_bind (kat_kind (T:=.type "int") tt (by omega) (fun v hv=>?_) (by decide) ?_)
  ·obtain⟨n,t,rfl⟩:=hf v hv
   exact .now
  ·have run:=NhLS.uY (E:=E) (a:=ks.toArray.zip vs.toArray) (g:=7) (FS (prog:=prog) (w:=w) (A:=A) (s:=s)) (Q:=fun _ st'=>∃b pd g,st'=SortSt.mk' (tuples' true) b pd g none∧b.toList.Perm (ks.zip vs)∧NhLS.So (fV s.heap).toKeyOrd (sY s.heap) b 0 b.size)
    (by simpa using hK.dom) fun b pd g hp hs=>⟨b,pd,g,rfl,by simpa using hp,by have:=hp.length_eq;simp only[Zb]at this;rw[this];exact hs⟩
   refine wpAny_bind (wpAny_mono run ?_ fun _ _ e=>e)
   rintro⟨⟨⟩,st'⟩ s' ⟨es,b,pd,g,e,hp,hs⟩
   subst es
   dsimp only at e
   subst e
   try dsimp only
   have hz:b.size=vs.length:=by have:=hp.length_eq;simpa[hl]using this
   exact vU (st:=SortSt.mk' (tuples' true) b pd g none) hk ha hka h64 hl hz rfl fun h' tk c h1 h3=>h h' tk _ c h1 (Dk hK hp hs) h3
def kY(prog:Program)(w:World)(A:Around)(f:Value)(s:Shared)(v:Value)(y:Ky):Prop:=∀(h:Heap) (tk:Nat),Keep s.heap h→
 wpAny (model prog w) A (call f [v]) (fun r s'=>∃h' tk',s'={s with heap:=h',toks:=tk'}∧Keep h h'∧IsKy h' r y) (fun _ _=>False) {s with heap:=h,toks:=tk}
theorem A8 {f:Value} {s0:Shared} (hs0:Keep s0.heap s.heap) (hss:∃tk,s={s0 with heap:=s.heap,toks:=tk}) (h0a:s0.heap.get? a=none) (h0k:s0.heap.get? kS=none) (hk:s.heap.get? kS=some (seqObj "list" #[] 0)) (ha:s.heap.get? a=some (seqObj "list" #[] e1)) (hka:kS≠a) (h64:vs.length < 65536) (hl:ys.length=vs.length)
  (turn:∀(i:Nat) (v:Value) (y:Ky),vs[i]? =some v→ys[i]? =some y→kY prog w A f s0 v y)
  (h:∀h' tk out c,h'.get? a=some (seqObj "list" out c)→xc ys vs out.toList→Keep s0.heap h'→P (.done (.ret .none)) {s0 with heap:=h',toks:=tk}):
  wpAny (model prog w) A (ksk_rest a f false vs.toArray e1 (.ref kS)) P E s:=by
 unfold ksk_rest
 refine wpAny_bind (wpAny_rule ?_)
 first
  |rw[List.forIn_toArray]
  |(rw[←Array.forIn_toList];simp only[List.toList_toArray])
  |rw[←Array.forIn_toList]
 obtain⟨tk0,es⟩:=hss
 refine wpAny_bind (ksk_fold (fun i s'=>∃h' tk kL e,s'={s0 with heap:=h',toks:=tk}∧Keep s0.heap h'∧h'.get? kS=some (seqObj "list" kL.toArray e)∧h'.get? a=some (seqObj "list" #[] e1)∧KA h' kL (ys.take i)) vs 0 s
  ⟨s.heap,tk0,[],0,es,hs0,hk,ha,by simp[KA]⟩ ?step ?done)
 case step=>
  rintro j x s' hx ⟨h',tk,kL,e,rfl,F',N1,N2,hK⟩
  simp only[Nat.zero_add]at hK ⊢
  have hj:j < vs.length:=(List.getElem?_eq_some_iff.mp hx).1
  obtain⟨y,hyj⟩:∃y,ys[j]? =some y:=⟨_,wc (by omega)⟩
  have hz:kL.length≤vs.length:=by
   have h1:=hK.len
   rw[List.length_take]at h1
   omega
  refine wpAny_bind (wpAny_attempt (wpAny_mono (turn j x y hx hyj h' tk F') (fun v s'' he=>?_) fun _ _ hF=>hF.elim))
  obtain⟨g,tk2,rfl,kg,hy⟩:=he
  try dsimp only
  have nk:=kg _ _ N1
  have na:=kg _ _ N2
  have s1:=Heap.SameBut.update g kS (Obj.mapSeq (·.push v))
  obtain⟨c2,hc2⟩:∃c2,(g.update kS (Obj.mapSeq (·.push v))).get? kS=some (seqObj "list" (kL.toArray.push v) c2):=⟨_,get?_update_seq nk (·.push v)⟩
  have ek:ys.take (j+1)=ys.take j++[y]:=by rw[List.take_add_one,hyj];simp
  have ea:kL.toArray.push v=(kL++[v]).toArray:=by simp
  have ng:∀{ks':List Value} {ys':List Ky},KA g ks' ys'→KA (g.update kS (Obj.mapSeq (·.push v))) ks' ys':=fun {ks'} {ys'} q=>by
   induction ks' generalizing ys' with
   |nil=>cases ys' with
    |nil=>trivial
    |cons _ _=>exact q.elim
   |cons k ks' ih=>cases ys' with
    |nil=>exact q.elim
    |cons y' ys'=>
     refine⟨?_,ih q.2⟩
     obtain⟨c,o,xs,n,t,z,u,ec,ho,hcl,r⟩:=q.1
     refine⟨c,o,xs,n,t,z,u,ec,(s1.2 c ?_).trans ho,hcl,r⟩
     intro e3
     subst e3
     rw[nk]at ho
     cases ho
     have e4:Value.type "list"=Value.type "tuple":=hcl
     injection e4 with e5
     exact absurd e5 (by decide)
  refine wpAny_bind (listUpdate_at nk rfl ?_ (by rw[kB,sizeLine_eq];omega) (jK (Nat.le_of_eq (Array.size_push ..)) (by rw[kB,sizeLine_eq];omega)))
  refine wpAny_pure ⟨rfl,_,_,kL++[v],c2,rfl,fun b o q=>?_,by rw[←ea];exact hc2,(s1.2 a hka.symm).trans na,by rw[ek];exact ng (KA.snoc hy (hK.keep kg))⟩
  refine(s1.2 b fun e3=>?_).trans (kg _ _ (F' _ _ q))
  subst e3
  rw[h0k]at q
  cases q
 case done=>
  rintro s' ⟨h',tk,kL,e,rfl,F',N1,N2,hK⟩
  have e3:ys.take (0+vs.length)=ys:=List.take_of_length_le (by omega)
  rw[e3]at hK
  try dsimp only
  refine wpAny_bind (listItems_at N1 rfl ?_)
  refine Dl (s:={s0 with heap:=h',toks:=tk}) hK N1 N2 hka h64 (by rw[hK.len,hl]) fun h3 tk3 out c g1 g2 g3=>h h3 tk3 out c g1 g2 fun b o q=>g3 b o ?_ ?_ (F' b o q)
  ·intro z;subst z;rw[h0a]at q;cases q
  ·intro z;subst z;rw[h0k]at q;cases q
theorem A9 {f:Value} {n:Nat} {s0:Shared} (hs0:Keep s0.heap s.heap) (hss:∃tk,s={s0 with heap:=s.heap,toks:=tk}) (h0a:s0.heap.get? a=none) (hle:s0.heap.objs.size≤s.heap.objs.size) (ho:s.heap.get? a=some (seqObj "list" vs.toArray n)) (h64:vs.length < 65536) (hl:ys.length=vs.length)
  (turn:∀(i:Nat) (v:Value) (y:Ky),vs[i]? =some v→ys[i]? =some y→kY prog w A f s0 v y)
  (h:∀h' tk out c,h'.get? a=some (seqObj "list" out c)→xc ys vs out.toList→Keep s0.heap h'→P (.done (.ret .none)) {s0 with heap:=h',toks:=tk}):
  wpAny (model prog w) A (ksk_tree a f false) P E s:=by
 have ha:a < s.heap.objs.size:=gn ho
 have s1:=Heap.SameBut.update s.heap a (Obj.mapSeq fun _=>(#[]:Array Value))
 obtain⟨e1,ho1⟩:∃e1,(s.heap.update a (Obj.mapSeq fun _=>(#[]:Array Value))).get? a=some (seqObj "list" #[] e1):=⟨_,get?_update_seq ho fun _=>#[]⟩
 have hkS:((s.heap.update a (Obj.mapSeq fun _=>(#[]:Array Value))).push (seqObj "tuple" vs.toArray 0)).objs.size=s.heap.objs.size+1:=by rw[size_push',Heap.size_update]
 obtain⟨tk0,es⟩:=hss
 unfold ksk_tree
 refine wpAny_bind (listItems_at ho rfl ?_)
 refine wpAny_bind (listUpdate_at ho rfl ?_ (by rw[kB,sizeLine_eq];omega) (Nat.zero_le _))
 refine wpAny_bind (seqEpoch_at ho1 rfl ?_)
 refine wpAny_bind (wpAny_newTuple ?_ (by show vs.length≤_;rw[sizeLine_eq];omega))
 refine wpAny_bind (wpAny_newList ?_ (Nat.zero_le _))
 refine wpAny_holding ?_
 refine A8 (s:={s with heap:=((s.heap.update a (Obj.mapSeq fun _=>(#[]:Array Value))).push (seqObj "tuple" vs.toArray 0)).push (seqObj "list" #[] 0)}) (kS:=((s.heap.update a (Obj.mapSeq fun _=>(#[]:Array Value))).push (seqObj "tuple" vs.toArray 0)).objs.size) (s0:=s0)
  (fun b o q=>?_) ⟨tk0,by rw[es]⟩ h0a (Heap.get?_none_of_le (by rw[hkS];omega)) (jU _ rfl) (gz _ (gz _ ho1)) (by rw[hkS];exact Nat.ne_of_gt (rO ha)) h64 hl turn h
 refine gz _ (gz _ ((s1.2 b fun z=>?_).trans (hs0 b o q)))
 subst z
 rw[h0a]at q
 cases q
end
end NhSG
namespace NhSG
set_option autoImplicit false
open PySem PyProof PyProof.Rows PySem.W
section
variable {prog:Program} {w:World} {A:Around} {E:Value→Shared→Prop} {s:Shared} {l q:Addr} {vs:List Value} {ys:List Ky} {Q:Value→Shared→Prop}
theorem uZ(hl:s.heap.IsList l vs.toArray)(hlen:ys.length=vs.length)(h64:vs.length < 65536)
  (turn:∀(i:Nat) (v:Value) (y:Ky),vs[i]? =some v→ys[i]? =some y→kY prog w A.in1.in1 (.ref q) s v y)
  (h:∀D h' tk out c,h'.get? D=some (seqObj "list" out c)→s.heap.objs.size≤D→xc ys vs out.toList→Keep s.heap h'→Q (.ref D) {s with heap:=h',toks:=tk}):
  wpAny (model prog w) A (call (.builtin "sorted") [.ref l] [(Str.ofString "key",.ref q)]) Q E s:=by
 refine call_function_entry_kw kind_sorted plain_sorted entry_sorted (ksk_s1 _ _) ?_
 unfold Builtin.«sorted»
 refine wpAny_bind (m:=checkCount "sorted" 1 1 _) (wpAny_pure ?_)
 refine wpAny_bind (collect_list hl ?_ (by rw[sizeLine_eq];omega))
 refine wpAny_bind (wpAny_newList ?_ (by rw[sizeLine_eq];omega))
 have hsz:((s.heap.push (seqObj "list" #[] 0)).update s.heap.objs.size (Obj.mapSeq (· ++vs.toArray))).objs.size=s.heap.objs.size+1:=by
  rw[Heap.size_update,size_push']
 have hoL:(((s.heap.push (seqObj "list" #[] 0)).update s.heap.objs.size (Obj.mapSeq (· ++vs.toArray))).push (seqObj "list" vs.toArray 0)).get? (s.heap.objs.size+1)=some (seqObj "list" vs.toArray 0):=by
  rw[←hsz];exact jU _ rfl
 have keep:Keep s.heap (((s.heap.push (seqObj "list" #[] 0)).update s.heap.objs.size (Obj.mapSeq (· ++vs.toArray))).push (seqObj "list" vs.toArray 0)):=fun b o q=>by
  have hlt:b < s.heap.objs.size:=gn q
  rw[Heap.get?_push_ne _ _ _ (by rw[hsz];exact gK (rO hlt)),Heap.get?_update_ne _ _ _ _ (gK hlt),Heap.get?_push_ne _ _ _ (gK hlt)]
  exact q
 show wpAny _ _ _ _ _ {s with heap:=((s.heap.push (seqObj "list" #[] 0)).update s.heap.objs.size (Obj.mapSeq (· ++vs.toArray))).push (seqObj "list" vs.toArray 0)}
 rw[hsz]
 have h0:s.heap.get? (s.heap.objs.size+1)=none:=Heap.get?_none_of_le (Nat.le_succ _)
 refine wpAny_bind (wpAny_holding (wpAny_call_entry_kw slot_list_sort ⟨_,hoL,rfl⟩ entry_list_sort ?body (ksk_l1 _ _)))
 case body=>
  show wpAny (model prog w) A.in1.in1 (Builtin.«list.sort» ⟨[.ref (s.heap.objs.size+1)],[(Str.ofString "key",.ref q)]⟩) _ _ _
  rw[ksk_t1]
  refine A9 (s:={s with heap:=((s.heap.push (seqObj "list" #[] 0)).update s.heap.objs.size (Obj.mapSeq (· ++vs.toArray))).push (seqObj "list" vs.toArray 0)}) (s0:=s) keep ⟨s.toks,rfl⟩ h0 (by rw[size_push',hsz];omega) hoL h64 hlen turn fun h' tk out c g1 g2 g3=>⟨_,rfl,?_⟩
  exact wpAny_pure ⟨_,rfl,h _ h' tk out c g1 (Nat.le_succ _) g2 g3⟩
end
end NhSG
namespace NhSG
set_option autoImplicit false
open PySem
def iN(z:Str):Ky:=(z.length,z.cps.toList)
def rM(a b:Str):Bool:= !gC (iN b) (iN a)
def jP(ws:List Str):List Str:=ws.mergeSort rM
def ue:Value→Option Str
 |.str z _=>some z
 |_=>none
theorem yT{a b:Str}(h:iN a=iN b):a=b:=by
 have e:a.cps.toList=b.cps.toList:=congrArg Prod.snd h
 cases a;cases b
 congr
 exact Array.toList_inj.mp e
theorem xg(a b c:Str)(h1:rM a b=true)(h2:rM b c=true):rM a c=true:=by
 unfold rM at *
 simp only[Bool.not_eq_true']at *
 exact(PyProof.Rows.KeyOrd.kle_trans (O:=(fV default).toKeyOrd) h1 h2)
theorem xh(a b:Str):(rM a b||rM b a)=true:=by
 unfold rM
 by_cases h:gC (iN b) (iN a)=true
 ·have:gC (iN a) (iN b)=false:=PyProof.Rows.KeyOrd.klt_asymm (O:=(fV default).toKeyOrd) h
  simp[this]
 ·simp[Bool.not_eq_true _▸h]
theorem yU{a b:Str}(h1:rM a b=true)(h2:rM b a=true):a=b:=by
 unfold rM at *
 simp only[Bool.not_eq_true']at *
 exact yT ((fV default).total _ _ h2 h1)
theorem pN{qs ws:List Str}(hp:qs.Perm ws)(hs:qs.Pairwise fun a b=>rM a b=true):qs=jP ws:=by
 have h1:(jP ws).Pairwise fun a b=>rM a b=true:=List.pairwise_mergeSort xg xh ws
 have h2:qs.Perm (jP ws):=hp.trans (List.mergeSort_perm ws rM).symm
 exact h2.eq_of_pairwise (fun a b _ _ x y=>yU x y) hs h1
theorem xi{ws:List Str}{vs out:List Value}(hv:vs.map ue=ws.map some)(h:xc (ws.map iN) vs out):out.map ue=(jP ws).map some:=by
 obtain⟨ps,hp,hs,rfl⟩:=h
 have key:∀(ws:List Str) (vs:List Value),vs.map ue=ws.map some→∀p∈(ws.map iN).zip vs,∃z,p.1=iN z∧ue p.2=some z:=fun ws=>by
  induction ws with
  |nil=>intro vs _ p hp;simp at hp
  |cons w ws ih=>
   intro vs hv p hp
   cases vs with
   |nil=>simp at hp
   |cons v vs=>
    simp only[ce,List.cons.injEq]at hv
    rw[ce,List.zip_cons_cons]at hp
    rcases Zaq.mp hp with rfl |hp
    ·exact⟨w,rfl,hv.1⟩
    ·exact ih vs hv.2 p hp
 have zm:∀(ws:List Str) (vs:List Value),vs.map ue=ws.map some→((ws.map iN).zip vs).map (fun p=>ue p.2)=ws.map some:=fun ws=>by
  induction ws with
  |nil=>intro vs _;simp
  |cons w ws ih=>
   intro vs hv
   cases vs with
   |nil=>simp at hv
   |cons v vs=>
    simp only[ce,List.cons.injEq]at hv
    simp only[ce,List.zip_cons_cons,hv.1,ih vs hv.2]
 have ex:∀ps:List (Ky×Value),(∀p∈ps,∃z,p.1=iN z∧ue p.2=some z)→∃qs:List Str,ps.map (·.1)=qs.map iN∧ps.map (fun p=>ue p.2)=qs.map some:=fun ps=>by
  induction ps with
  |nil=>intro _;exact⟨[],rfl,rfl⟩
  |cons p ps ih=>
   intro h
   obtain⟨z,h1,h2⟩:=h p (ir ..)
   obtain⟨qs,e1,e2⟩:=ih fun q hq=>h q (g6 _ hq)
   exact⟨z::qs,by simp[h1,e1],by simp[h2,e2]⟩
 obtain⟨qs,e1,e2⟩:=ex ps fun p hp'=>key ws vs hv p (hp.mem_iff.mp hp')
 have perm:qs.Perm ws:=by
  have h1:=hp.map (fun p=>ue p.2)
  rw[e2,zm ws vs hv]at h1
  have h2:=h1.filterMap id
  simpa using h2
 have srt:qs.Pairwise fun a b=>rM a b=true:=by
  have h1:(ps.map (·.1)).Pairwise fun a b=>gC b a=false:=List.pairwise_map.mpr hs
  rw[e1,List.pairwise_map]at h1
  exact h1.imp fun h=>by unfold rM;simp[h]
 rw[List.map_map]
 show ps.map (fun p=>ue p.2)=_
 rw[e2,pN perm srt]
end NhSG
namespace NhSG
open PySem PySem.Spec PySem.Calls PyProof PyProof.Rows PySem.W
section
variable {prog:Program} {w:World} {A:Around} {E:Value→Shared→Prop} {s:Shared} {Q:Value→Shared→Prop}
theorem yV {env:Env} {x z:Str} {t:Tok} {m mg mb:Str→Option Value} {p1 p2 p3 p4 pos:Pos} {x1} (hk:env.scope.kind=.function) (hx:env.kindOf x=some .local) (hl:env.kindOf "len"=some .globalImplicit)
  (hn:s.heap.Ns env.locals m) (hm:m x=some (.str z t)) (hg:s.heap.Ns env.globals mg) (hlg:mg "len"=none) (hb:s.heap.Ns env.builtins mb) (hlb:mb "len"=some (.builtin "len")) (hz:z.length≤sizeLine)
  (h:∀h' tk r,Keep s.heap h'→IsKy h' r (iN z)→Q r {s with heap:=h',toks:=tk})
  (hd:(x == ("__debug__":Str))=false:=by decide) (h1:starEach [Expr.Call (.Name "len" p1) [.Name x p2] [] p3,.Name x p4] env=(false,eval (.Call (.Name "len" p1) [.Name x p2] [] p3) env)::starEach [Expr.Name x p4] env:=by rfl)
  (h2:starEach [Expr.Name x p4] env=[(false,eval (.Name x p4) env)]:=by rfl) (h3:starEach [Expr.Name x p2] env=(false,eval (.Name x p2) env)::starEach [] env:=by rfl):
  wpAny (model prog w) A (eval (.Tuple [.Call (.Name "len" p1) [.Name x p2] [] p3,.Name x p4] x1 pos) env) Q E s:=by
 refine wpAny_Tuple_spliced ?_
 rw[h1,h2]
 show wpAny _ _ (spliced ((false,eval (.Call (.Name "len" p1) [.Name x p2] [] p3) env)::backTo pos [(false,eval (.Name x p4) env)])) _ _ s
 refine Calls.spliced_cons ?_
 refine wpAny_Call_Name_kw (Calls.Name_function_global hk hl (Calls.loadGlobal_builtin hg hlg hb hlb ?_) (by decide))
 refine PyProof.Rows.callWith_builtin1 ?_ h3 rfl
 rw[h3]
 show wpAny _ _ (spliced ((false,eval (.Name x p2) env)::backTo p3 (starEach [] env))) _ _ s
 refine Calls.spliced_cons (wpAny_Name (wpAny_loadName_local hk hx hn hm ?_) hd)
 show wpAny _ _ (spliced []) _ _ s
 refine Calls.spliced_nil ?_
 refine len_str (by have:=hz;rw[sizeLine_eq]at this;omega) ?_
 show wpAny _ _ (spliced [(false,standAt pos >>= fun _=>eval (.Name x p4) env)]) _ _ _
 refine Calls.spliced_cons (wpAny_bind (wpAny_standAt (wpAny_Name (wpAny_loadName_local hk hx hn hm ?_) hd)))
 refine Calls.spliced_nil ⟨by rw[sizeLine_eq];simp,?_⟩
 exact h _ _ _ (fun b o e=>gz _ e) ⟨_,_,_,_,_,z,t,rfl,jU _ rfl,rfl,rfl,rfl,rfl⟩
structure KMod (h:Heap):Prop where
 g:∃mg,h.Ns mainGlobals mg∧mg "len"=none
 b:∃mb,h.Ns builtinsNs mb∧mb "len"=some (.builtin "len")
 lim:h.NoLimit
theorem KMod.keeps{h h':Heap}(a:KMod h)(k:Keep h h'):KMod h':=
 ⟨let ⟨mg,e,r⟩:=a.g;⟨mg,e.keeps k,r⟩,let ⟨mb,e,r⟩:=a.b;⟨mb,e.keeps k,r⟩,a.lim.keeps k⟩
theorem sZ{f c':Addr}{name qual x z:Str}{t:Tok}{params:Arguments}{scope:Scope}{pm ctv:Value}{p1 p2 p3 p4 pos:Pos}{x1}(M:KMod s.heap)(hroom:A.depth < recursionLimit)
  (ho:s.heap.get? f=some (kla_obj name qual params (.Tuple [.Call (.Name "len" p1) [.Name x p2] [] p3,.Name x p4] x1 pos) scope [] pm c' ctv)) (hcd:s.heap.CodeRec (.ref c') qual) (hz:z.length≤sizeLine)
  (hbind:bindArgs (kla_fn name qual params (.Tuple [.Call (.Name "len" p1) [.Name x p2] [] p3,.Name x p4] x1 pos) scope [] pm (.ref c') ctv) ⟨[.str z t],[]⟩=pure [(x,.str z t)])
  (hx:scope.names.lookup x=some .local) (hlen:scope.names.lookup (Str.ofString "len")=some .globalImplicit) (hco:scope.isCoroutine=false) (hgen:scope.isGenerator=false) (hk:scope.kind=.function) (hcell:∀x∈scope.names,x.2≠ .cell)
  (hd:(x == ("__debug__":Str))=false):kY prog w A (.ref f) s (.str z t) (iN z):=by
 intro h tk kp
 refine wpAny_call (kla_callFunE hroom (kp _ _ ho) rfl hco hgen rfl (hcd.keeps kp) ?_)
 rw[hbind]
 refine wpAny_pure (wpAny_newFunctionEnv hcell (fun y hy=>?_) (fun h₁ hns hsb=>⟨((M.keeps kp).lim).fresh _ hsb,?_⟩) hk)
 ·rw[Zaf.mp hy];exact hx
 have hk₁:Keep h h₁:=fun b o e=>hsb.extBut b o (gK (gn e)) (gz _ e)
 have M1:=(M.keeps kp).keeps hk₁
 obtain⟨mg,g1,g2⟩:=M1.g
 obtain⟨mb,b1,b2⟩:=M1.b
 refine kla_codeExpr (yV (t:=t) (z:=z) (m:=fun y=>List.lookup y [(x,Value.str z t)].reverse) hk hx hlen hns ?_ g1 g2 b1 b2 hz (fun h' tk' r k1 k2=>?_) hd)
 ·simp
 ·exact⟨h',tk',rfl,hk₁.trans k1,k2⟩
end
end NhSG
namespace PL
open PySem L2 Nh
def qZ(f:bL):bL:=fun E=>(f E).bind fun a=>match look a.2 a.1 with
 |some (.list ds)=>(kO ds).bind fun ss=>if (decide (ss.length < 65536)&&ss.all fun z=>decide (z.length≤1000))=true then some (.ow ((NhSG.jP ss).map .str),a.2)else none
 |_=>none
theorem s_:∀{ws:List Str} {vs:List Value},Vals (ws.map V.str) vs→vs.map NhSG.ue=ws.map some
 |[],_,.nil=>rfl
 |w::ws,_,.cons r t=>by
  obtain⟨u,rfl⟩:=r
  simp only[ce,s_ t]
  rfl
theorem tj:∀{ws:List Str} {vs:List Value},vs.map NhSG.ue=ws.map some→Vals (ws.map V.str) vs
 |[],[],_=>.nil
 |[],_::_,h=>by simp at h
 |_::_,[],h=>by simp at h
 |w::ws,v::vs,h=>by
  simp only[ce,List.cons.injEq]at h
  refine .cons ?_ (tj h.2)
  have h1:=h.1
  unfold NhSG.ue at h1
  split at h1
  ·cases h1;exact⟨_,rfl⟩
  ·cases h1
section
variable {X:Cx} {pins:List (Addr×Obj)} {σ:L2.St} {H:Hp} {s:Shared}
theorem EN (I:Inv X pins σ H s) (hl:X.mg "len"=none):NhSG.KMod s.heap:=
 ⟨⟨X.mg,I.mod.glob.keeps I.bk,hl⟩,let ⟨mb,h1,h2⟩:=I.mod.blt;⟨mb,h1.keeps I.bk,(h2 _ (by decide)).trans rfl⟩,I.nolimit⟩
theorem pO{l q:Addr}{ss:List Str}{Q:VK}(I:Inv X pins σ H s)(hq:SqL X.K H l (ss.map V.str))(h64:ss.length < 65536)
  (turn:∀z t,z∈ss→NhSG.kY X.prog X.w X.A.in1.in1 (.ref q) s (.str z t) (NhSG.iN z))
  (h:∀D,H D=none→Q (.ref D) (upd H D (.lst ((NhSG.jP ss).map V.str)))):
  wpAny (model X.prog X.w) X.A (call (.builtin "sorted") [.ref l] [(Str.ofString "key",.ref q)]) (EP X pins σ Q) X.xe s:=by
 obtain⟨its,rv,pl,hz⟩:=I.list hq
 have hv:=s_ rv
 have hlen:its.length=ss.length:=by have:=congrArg List.length hv;simpa using this
 refine NhSG.uZ (ys:=ss.map NhSG.iN) pl.isList (by simp[hlen]) (by omega) (fun i v y hv' hy'=>?_) fun D h' tk out c g1 g2 g3 g4=>?_
 ·rw[we]at hy'
  obtain⟨z,hz1,rfl⟩:=Zae.mp hy'
  have e:(its.map NhSG.ue)[i]? =(ss.map some)[i]? :=by rw[hv]
  rw[we,we,hv',hz1]at e
  have e1:NhSG.ue v=some z:=by simpa using e
  unfold NhSG.ue at e1
  split at e1
  ·cases e1;exact turn _ _ (List.mem_of_getElem? hz1)
  ·cases e1
 ·have ot:=NhSG.xi hv g3
  refine⟨.ref D,_,I.laid (t':=tk) g4 g2 (show ObjOk X.prog X.w _ _ _ (.lst ((NhSG.jP ss).map V.str))from⟨?_,out.toList,c,tj ot,by simpa using g1⟩),rfl,h D (I.hok.fresh g2)⟩
  rw[eQ]
  have:(NhSG.jP ss).length=ss.length:=(List.mergeSort_perm ss NhSG.rM).length_eq
  rw[this,sizeLine_eq]
  omega
end
theorem tw{z:Str}(h:z.length≤1000):z.length≤sizeLine:=by rw[sizeLine_eq];omega
end PL
namespace PL
open PySem L2 Nh
theorem oD{pos:Pos}{a b:Int}{c cv:Value}(l:List Value)(h:TriplesOk l)(e:codeAmong pos (l++[rawInt a,rawInt b,c])=some cv):codeAmong pos l=some cv∨cv=c:=by
 fun_induction TriplesOk l with
 |case1=>
  simp only[Z8,codeAmong,rawInt]at e
  split at e
  ·cases e;exact .inr rfl
  ·cases e
 |case2 a' t b' u x aU ih=>
  simp only[Z9,codeAmong]at e ⊢
  split at e
  ·rename_i hc;rw[if_pos hc];exact .inl e
  ·rename_i hc;rw[if_neg hc];exact ih h e
 |case3 l h1 h2=>exact h.elim
section
variable {X:Cx} {pins:List (Addr×Obj)} {σ:L2.St} {H:Hp} {s:Shared}
theorem xj{P c':Addr}{q:Str}{ps:Array Value}{a b:Int}{h':Heap}{tk:Nat}(I:Inv X pins σ H s)(hT:H P=some (.tbl q))(hps:s.heap.get? P=some (tabObj ps))
  (hx:∀b o,b≠P→s.heap.get? b=some o→h'.get? b=some o) (hc:s.heap.objs.size≤c') (hr:h'.CodeRec (.ref c') q) (hP:h'.get? P=some (tabObj (ps++#[rawInt a,rawInt b,.ref c']))):
  Inv X pins σ (upd H c' (.own P)) {s with heap:=h',toks:=tk}:=by
 have hn:H c'=none:=I.hok.fresh hc
 have neP:∀b,H b=none→b≠P:=fun b n z=>by subst z;rw[hT]at n;cases n
 obtain⟨ps0,e0,t0,r0⟩:=I.hok P _ hT
 rw[hps]at e0
 cases e0
 refine I.un (h':=h') (t':=tk) ⟨fun b o e n _ _=>hx b o (neP b n) e,fun b o e n _ _=>⟨o.slots,hx b o (neP b n) e⟩,fun b o e n _=>?_,fun b o e _=>?_,fun b xs e=>?_,fun b o u e=>?_,fun b z e=>?_⟩ fun d o e=>?_
 ·rw[aX (gK (lE (gn e) hc))];exact n
 ·by_cases hb:b=P
  ·subst hb;exact⟨_,hP⟩
  ·exact⟨o,hx b o hb e⟩
 ·rw[aX (bY e hn)];exact e
 ·rw[aX (bY e hn)];exact e
 ·rw[aX (bY e hn)];exact e
 ·by_cases hd:d=c'
  ·subst hd
   rw[c_]at e
   cases e
   obtain⟨c2,oc,_,_,hc2,hoc,_⟩:=hr
   cases hc2
   exact⟨oc,hoc⟩
  ·rw[aX hd]at e
   by_cases hp:d=P
   ·subst hp
    rw[hT]at e
    cases e
    refine⟨_,hP,by simpa using TriplesOk_snoc a b (.ref c') _ t0,fun pos cv z=>?_⟩
    rcases oD (a:=a) (b:=b) (c:=.ref c') ps.toList t0 (by simpa using z)with z |z
    ·obtain⟨c,ec,ho,c2,oc,vs,tq,hc2,hoc,hr2⟩:=r0 pos cv z
     subst ec
     cases hc2
     refine⟨c,rfl,by rw[aX (bY ho hn)];exact ho,c,oc,vs,tq,rfl,hx _ _ (fun z=>?_) hoc,hr2⟩
     subst z
     rw[hT]at ho
     cases ho
    ·subst z
     exact⟨c',rfl,c_,hr⟩
   ·refine(I.hok d o e).stay (fun b u hb q=>hx b u ?_ q) (fun b hb=>by rw[aX (bY hb hn)];exact hb) fun b xs hb=>by rw[aX (bY hb hn)];exact hb
    rcases hb with rfl |hb
    ·exact hp
    ·intro z
     subst z
     rw[hT]at hb
     cases hb
theorem EO{P:Addr}{ps:Array Value}(I:Inv X pins σ H s)(hps:s.heap.get? P=some (tabObj ps)):mainGlobals≠P∧s.heap.BuiltinsAt X.mg P:=by
 have hg:=I.mod.glob.keeps I.bk
 obtain⟨bm,ob,b1,b2,b3,b4,b5,b6⟩:=I.mod.bmain
 have b3':=I.bk _ _ b3
 refine⟨fun q=>?_,bm,ob,b1,b2,fun q=>?_,fun q=>?_,b3',b4,b5,b6⟩
 ·obtain⟨o,es,ep,e,hd,_⟩:=hg
  rw[q,hps]at e;cases e;cases hd
 ·obtain⟨o,es,ep,e,hd,_⟩:=hg
  rw[q,e]at b3';cases b3';rw[hd]at b6;cases b6
 ·rw[q,hps]at b3';cases b3';cases b4
end
section
variable {X:Cx} {e:Expr} {m:Bool} {f:bL} {p pos kp lp:Pos} {y:Str} {k:Nat} {p1 p2 p3 p4 tp:Pos} {x1:Nat} {params:Arguments} {scope:Scope} {c P:Addr}
theorem yW (hcode:X.env.code=.ref c) (hP:xI X.K=some P) (hC:codeHdIn X.K c P=true) (hr:Room k X.A) (hg:Gl X "sorted") (hm:X.mg "sorted"=none) (hl:X.mg "len"=none) (ha:EX X e m f)
  (hq:X.env.qual++"<lambda>"=Str.ofString "in_told_order.<locals>.<lambda>") (hdef:defaultsOf params X.env=([],[]):=by rfl)
  (hbind:∀(name qual:Str) (pm cd ctv u:Value),bindArgs (PySem.W.kla_fn name qual params (.Tuple [.Call (.Name "len" p1) [.Name y p2] [] p3,.Name y p4] x1 tp) scope [] pm cd ctv) ⟨[u],[]⟩=pure [(y,u)]:=by intros;rfl)
  (sc1:scope.names.lookup y=some .local:=by rfl) (eC:scope.names.lookup (Str.ofString "len")=some .globalImplicit:=by rfl) (sc3:scope.isCoroutine=false:=by rfl) (sc4:scope.isGenerator=false:=by rfl) (sc5:scope.kind=.function:=by rfl)
  (sc6:∀x∈scope.names,x.2≠ .cell:=by decide) (sc7:∀x∈scope.names,x.2≠ .free:=by decide) (hdy:(y == ("__debug__":Str))=false:=by decide)
  (he:starEach [e] X.env=[(false,eval e X.env)]:=by rfl)
  (he':backTo pos (starEach [e] X.env)=(false,eval e X.env)::backTo pos (starEach [] X.env):=by rfl) (hpl:(backTo pos (starEach [e] X.env)).any (·.1)=false:=by rfl)
  (hall:(backToKw pos (keywordEach [⟨some "key",.Lambda params (.Tuple [.Call (.Name "len" p1) [.Name y p2] [] p3,.Name y p4] x1 tp) scope lp,kp⟩] X.env)).all (·.1.isSome)=true:=by rfl)
  (hkw:(backToKw pos (keywordEach [⟨some "key",.Lambda params (.Tuple [.Call (.Name "len" p1) [.Name y p2] [] p3,.Name y p4] x1 tp) scope lp,kp⟩] X.env)).any (·.1.isNone)=false:=by rfl)
  (hnm:(backToKw pos (keywordEach [⟨some "key",.Lambda params (.Tuple [.Call (.Name "len" p1) [.Name y p2] [] p3,.Name y p4] x1 tp) scope lp,kp⟩] X.env)).filterMap (·.1)=[Str.ofString "key"]:=by rfl):
  EX X (.Call (.Name "sorted" p) [e] [⟨some "key",.Lambda params (.Tuple [.Call (.Name "len" p1) [.Name y p2] [] p3,.Name y p4] x1 tp) scope lp,kp⟩] pos) m (qZ f):=by
 intro pins s σ H Q I z
 obtain⟨B,E,xs,Xs,res,E',fr,cl,e0,q⟩:=z
 obtain⟨⟨r1,E1⟩,e1,e2⟩:=Za.mp e0
 simp only at e2
 split at e2
 ·rename_i ds ld
  obtain⟨ss,en,e3⟩:=Za.mp e2
  split at e3
  ·rename_i hc
   cases e3
   simp only[uf,decide_eq_true_eq,List.all_eq_true]at hc
   refine wpAny_Call_Name_kw (jW I hg hm PyProof.Rows.boot_sorted ?_ (by decide) (by decide))
   refine PyProof.Rows.callWith_kw (dJ (fT ha iH he pos pins s σ H (fun vs H1=>∃p,vs=[.ref p]∧SqL X.K H1 p (ss.map V.str)∧∀H2,Same H1 H2→∀D,H2 D=none→Q (.ref D) (upd H2 D (.lst ((NhSG.jP ss).map V.str)))) I ⟨B,E,xs,Xs,r1,_,fr,cl,e1,fun v1 H1 ⟨F,A,fr1⟩=>?_⟩) fun us s2 ⟨vs,H1,I1,r1,p0,ev,hq1,q1⟩=>?_) he' hpl hall hkw
   ·obtain⟨A',fr2⟩:=fr1.pop
    have r:=(fr1.look0 ld).1
    cases r with
    |lst h1 h2=>
     have:=qL h2 en
     subst this
     exact⟨_,rfl,h1,fun H2 g D hD=>q _ _ ⟨_,_,(fr2.grow g).newl (kP _) hD⟩⟩
   ·subst ev
    cases r1 with
    |cons r rr=>
     cases rr
     cases r
     refine PyProof.Rows.kws_cons (PySem.W.kla_eval hdef ?_)
     have hT:H1 P=some (.tbl (Str.ofString "in_told_order.<locals>.<lambda>")):=I1.tab P _ (by unfold mN;rw[if_pos hP])
     obtain⟨ps,hps,ht,hit⟩:=I1.hok P _ hT
     obtain⟨hgP,hbA⟩:=EO I1 hps
     have hcl:closureFor scope X.env=pure []:=closureFor_none sc7
     have C:=PySem.W.codeHd_of_K I1.kIn hC
     have hroom:X.A.in1.in1.depth < recursionLimit:=by have:=hr.dp;show X.A.depth < recursionLimit;omega
     cases hca:codeAmong lp ps.toList with
     |none=>
      refine PySem.W.kla_makeFunction hcl I1.ok.glob (I1.mod.glob.keeps I1.bk) hcode C hps ht hca hgP hbA fun c' ctv h' tk hx hge hlt hrec htb=>?_
      rw[hq]at hrec
      have I2:=xj (tk:=tk) I1 hT hps (fun b o hb e=>hx b o hb e) hge hrec htb
      have g:Same H1 (upd H1 c' (.own P)):=iy (I1.hok.fresh hge) _
      have I3:=I2.kept (t':=tk) (fun b o e=>gz (PySem.W.kla_obj "<lambda>" (X.env.qual++"<lambda>") params (.Tuple [.Call (.Name "len" p1) [.Name y p2] [] p3,.Name y p4] x1 tp) scope [] ((X.mg "__name__").getD .none) c' ctv) e)
      refine PyProof.Rows.kws_nil ?_
      rw[hnm]
      refine pO I3 (g.seq hq1) hc.1 (fun z t hz=>?_) (q1 _ g)
      exact NhSG.sZ (EN I3 hl) hroom (jU _ rfl) (by rw[hq];exact hrec.keeps fun b o e=>gz _ e) (tw (hc.2 z hz)) (hbind _ _ _ _ _ _) sc1 eC sc3 sc4 sc5 sc6 hdy
     |some cv=>
      obtain⟨c',rfl,ho,hrec⟩:=hit lp cv hca
      refine PySem.W.kla_makeFunctionHit hcl I1.ok.glob (I1.mod.glob.keeps I1.bk) hcode C hps ht hca hbA fun ctv h' tk hx hsz=>?_
      have I3:=I1.kept (t':=tk) (fun b o e=>gz (PySem.W.kla_obj "<lambda>" (X.env.qual++"<lambda>") params (.Tuple [.Call (.Name "len" p1) [.Name y p2] [] p3,.Name y p4] x1 tp) scope [] ((X.mg "__name__").getD .none) c' ctv) (hx b o e))
      refine PyProof.Rows.kws_nil ?_
      rw[hnm]
      refine pO I3 hq1 hc.1 (fun z t hz=>?_) (q1 _ (Same.refl _))
      exact NhSG.sZ (EN I3 hl) hroom (jU _ rfl) (by rw[hq];exact hrec.keeps fun b o e=>gz _ (hx b o e)) (tw (hc.2 z hz)) (hbind _ _ _ _ _ _) sc1 eC sc3 sc4 sc5 sc6 hdy
  ·cases e3
 ·cases e2
end
structure DefT (K:Frag) (mg:Str→Option Value) (x:Str) (st:Stmt) (ps:List Str) (c P:Addr):Prop where
 ex:∃(f:Addr) (oc:Value) (od:Option Addr) (kV doc pm:Value) (an:Option Addr) (ct:Value) (osl:Array (Option Value)),
  K.lookup f=some ⟨oc,od,.func (fnOf x x (eN st) (cQ st) (ao st) .none kV doc pm an (.ref c) ct),osl⟩∧codeIn K (.ref c) x=true∧keepIn K (.ref f)=true∧mg x=some (.ref f)∧
   Binds K (fnOf x x (eN st) (cQ st) (ao st) .none kV doc pm an (.ref c) ct) ps []
 hd:codeHdIn K c P=true
 tp:xI K=some P
theorem FT{P:Program}{w:World}{K:Frag}{mg:Str→Option Value}{base:Heap}{x:Str}{st:Stmt}{N ps:List Str}{k a n:Nat}{g:dN}{c T:Addr}(D:DefT K mg x st ps c T)(S:FnScope N ps (ao st))(hpa:ps.length=a)(hNn:N.length=n)(hps:a≤n)
  (hbody:∀(f:Addr) (A:Around) (outer:List Env) (s:Shared) (H:Hp) (E:XK),Room k (A.deeper (PyProof.Rows.envOfC x (ao st) s.heap.objs.size f (.ref c)))→
   wC (oA wA P w K mg base N x (ao st) f (.ref c) A outer s H E).nox (cQ st) g):Own P w K mg base (k+1) x ps (du K (eM a n g)):=by
 subst hpa hNn
 obtain⟨f,oc,od,kV,doc,pm,an,ct,osl,lk,hcd,kp,hm,hb⟩:=D.ex
 refine⟨f,_,BQ lk hcd S (fun vs H Q E h=>?_) (fun A outer s H vs Q E hr h=>?_),hb,hm,kp⟩
 ·obtain⟨ds,r,e,rp,_⟩:=h
  unfold eM at e
  split at e
  ·rename_i hl
   rw[rp.len];exact hl
  ·cases e
 obtain⟨ds,r,e,rp,q⟩:=h
 unfold eM at e
 split at e
 ·rename_i hl
  refine⟨_,(hbody f A outer s H E hr).nox,?_⟩
  obtain⟨⟨E',fl⟩,e1,e⟩:=Za.mp e
  refine⟨H,a_ N.length ds,[],[],E',fl,⟨H,[],qH rp (by omega)⟩,rfl,e1,?_⟩
  cases fl with
  |nx=>
   cases e
   rintro σ' H' ⟨F',A',fr'⟩
   exact q _ _ (fr'.bf.trans fr'.fh) .non
  |bk=>cases e
  |ct=>cases e
  |rt r'=>
   rintro σ' v H' ⟨F',A',fr'⟩
   obtain⟨s1,s2⟩:=fr'.resultO e
   exact q v H' s1 s2
 ·cases e
theorem yX {K:Frag} {f c P:Addr} {oc occ:Value} {od odc:Option Addr} {fd:FuncData} {sl slc:Array (Option Value)} {vs:Array Value} (a:nsIn K mainGlobals "in_told_order"=some (some (.ref f))) (l:K.lookup f=some ⟨oc,od,.func fd,sl⟩) (hc:fd.code=.ref c)
  (lc:K.lookup c=some ⟨occ,odc,.fields vs,slc⟩) (hv:(vs[11]? :Option Value)=some (.ref P)):xI K=some P:=by
 unfold xI
 rw[a]
 simp only[l,hc,lc,hv]
theorem yY {K:Frag} {h:Heap} {f c P:Addr} {oc occ:Value} {od odc:Option Addr} {fd:FuncData} {sl slc:Array (Option Value)} {vs:Array Value} (X:K.In h) (a:nsIn K mainGlobals "in_told_order"=some (some (.ref f))) (l:K.lookup f=some ⟨oc,od,.func fd,sl⟩) (hc:fd.code=.ref c)
  (lc:K.lookup c=some ⟨occ,odc,.fields vs,slc⟩) (hv:(vs[11]? :Option Value)=some (.ref P)) (hd:codeHdIn K c P=true) (hn:K.lookup P=none) (ht:h.get? P=some (tabObj #[])):vM K h:=fun b q e=>by
 have tp:=yX a l hc lc hv
 unfold mN at e
 split at e
 ·rename_i hb
  rw[tp]at hb
  cases hb
  exact⟨ht,⟨c,PySem.W.codeHd_of_K X hd⟩,hn⟩
 ·cases e
end PL
namespace NhFam
abbrev Tx:=List Nat
def Srt(w:Tx):Prop:=w.Pairwise (· < ·)
def le(v w:Tx):Prop:=∀x∈v,x∈w
instance (v w:Tx):Decidable (le v w):=inferInstanceAs (Decidable (∀x∈v,x∈w))
theorem le.refl(v:Tx):le v v:=fun _ h=>h
theorem le.trans{u v w:Tx}(a:le u v)(b:le v w):le u w:=fun x h=>b x (a x h)
def Sub(U w:Tx):Prop:=Srt w∧le w U
theorem eO:∀{w v:Tx},Srt v→Srt w→le v w→v.Sublist w
 |[],v,_,_,h=>by
  cases v with
  |nil=>exact .slnil
  |cons x v=>cases h x (ir ..)
 |y::w,v,hv,hw,h=>by
  cases v with
  |nil=>exact List.nil_sublist _
  |cons x v=>
   have hw':=List.pairwise_cons.mp hw
   have hv':=List.pairwise_cons.mp hv
   by_cases e:x=y
   ·subst e
    refine(eO hv'.2 hw'.2 fun z hz=>?_).cons_cons _
    rcases Zaq.mp (h z (g6 _ hz))with q |q
    ·have:=hv'.1 z hz;omega
    ·exact q
   ·have hx:x∈w:=(Zaq.mp (h x (ir ..))).resolve_left e
    have lt:=hw'.1 x hx
    refine(eO hv hw'.2 fun z hz=>?_).cons _
    rcases Zaq.mp (h z hz)with q |q
    ·subst q
     rcases Zaq.mp hz with q |q
     ·omega
     ·have:=hv'.1 z q;omega
    ·exact q
theorem Srt.ext{v w:Tx}(hv:Srt v)(hw:Srt w)(a:le v w)(b:le w v):v=w:=
 (eO hv hw a).eq_of_length (Nat.le_antisymm (eO hv hw a).length_le (eO hw hv b).length_le)
theorem yZ{v w:Tx}(hv:Srt v)(hw:Srt w)(a:le v w)(n:v≠w):v.length < w.length:=by
 have s:=eO hv hw a
 rcases Nat.lt_or_ge v.length w.length with h |h
 ·exact h
 ·exact absurd (s.eq_of_length (Nat.le_antisymm s.length_le h)) n
def key(w:Tx):NhSG.Ky:=((w.length:Int),w)
def jM(v w:Tx):Prop:=NhSG.gC (key v) (key w)=true
theorem u0{v w:Tx}(h:v.length < w.length):jM v w:=NhSG.ltKy_iff.mpr (.inl (by simp only[key];omega))
theorem nW(v:Tx):¬jM v v:=fun h=>by
 have:=(NhSG.fV default).irrefl (key v)
 unfold jM at h
 rw[show NhSG.gC (key v) (key v)=false from this]at h
 cases h
theorem pP{v w:Tx}(h1:¬jM v w)(h2:¬jM w v):v=w:=by
 have h:=(NhSG.fV default).total (key v) (key w) (by simpa[jM]using h1) (by simpa[jM]using h2)
 exact congrArg Prod.snd h
theorem pQ{u v w:Tx}(a:jM u v)(b:jM v w):jM u w:=(NhSG.fV default).trans _ _ _ a b
theorem pR{v w:Tx}(a:jM v w):¬jM w v:=fun b=>nW v (pQ a b)
def up(F:List Tx)(w:Tx):Prop:=∃v∈F,le v w
def Min(U:Tx)(f:Tx→Prop)(w:Tx):Prop:=Sub U w∧f w∧∀v,Sub U v→f v→le v w→v=w
structure Told (U:Tx) (L:List Tx) (f:Tx→Prop):Prop where
 srt:L.Pairwise jM
 mem:∀w,w∈L↔Min U f w
def xk(U:Tx)(f:Tx→Prop):Prop:=∀v w,Sub U v→Sub U w→le v w→f v→f w
theorem nX{U:Tx}{f:Tx→Prop}:∀(n:Nat) (w:Tx),w.length≤n→Sub U w→f w→∃v,Min U f v∧le v w
 |n,w,hn,hw,hf=>by
  by_cases h:∀v,Sub U v→f v→le v w→v=w
  ·exact⟨w,⟨hw,hf,h⟩,le.refl w⟩
  ·obtain⟨v,h⟩:=Classical.not_forall.mp h
   obtain⟨v1,h⟩:=Classical.not_imp.mp h
   obtain⟨v2,h⟩:=Classical.not_imp.mp h
   obtain⟨v3,v4⟩:=Classical.not_imp.mp h
   have:=yZ v1.1 hw.1 v3 v4
   cases n with
   |zero=>omega
   |succ n=>
    obtain⟨u,a,b⟩:=nX n v (by omega) v1 v2
    exact⟨u,a,b.trans v3⟩
theorem Told.sub{U:Tx}{L:List Tx}{f:Tx→Prop}(h:Told U L f):∀w∈L,Sub U w:=fun w hw=>((h.mem w).mp hw).1
theorem Told.up_iff{U:Tx}{L:List Tx}{f:Tx→Prop}(h:Told U L f)(m:xk U f){w:Tx}(hw:Sub U w):up L w↔f w:=by
 constructor
 ·rintro⟨v,hv,l⟩
  have:=(h.mem v).mp hv
  exact m v w this.1 hw l this.2.1
 ·intro hf
  obtain⟨v,a,b⟩:=nX w.length w (fS _) hw hf
  exact⟨v,(h.mem v).mpr a,b⟩
theorem Min.congr{U:Tx}{f g:Tx→Prop}(h:∀w,Sub U w→(f w↔g w)){w:Tx}:Min U f w↔Min U g w:=by
 constructor
 ·rintro⟨a,b,c⟩;exact⟨a,(h w a).mp b,fun v v1 v2 v3=>c v v1 ((h v v1).mpr v2) v3⟩
 ·rintro⟨a,b,c⟩;exact⟨a,(h w a).mpr b,fun v v1 v2 v3=>c v v1 ((h v v1).mp v2) v3⟩
theorem Told.congr{U:Tx}{L:List Tx}{f g:Tx→Prop}(a:Told U L f)(h:∀w,Sub U w→(f w↔g w)):Told U L g:=⟨a.srt,fun w=>(a.mem w).trans (Min.congr h)⟩
theorem iD{L:List Tx}(h:L.Pairwise jM):L.Nodup:=h.imp fun {a b} h e=>by subst e;exact nW a h
theorem y0{L L':List Tx}(a:L.Pairwise jM)(b:L'.Pairwise jM)(h:∀w,w∈L↔w∈L'):L=L':=
 ((List.perm_ext_iff_of_nodup (iD a) (iD b)).mpr h).eq_of_pairwise (fun x y _ _ p q=>absurd q (pR p)) a b
theorem Told.uniq{U:Tx}{L L':List Tx}{f g:Tx→Prop}(a:Told U L f)(b:Told U L' g)(h:∀w,Sub U w→(f w↔g w)):L=L':=
 y0 a.srt b.srt fun w=>(a.mem w).trans ((Min.congr h).trans (b.mem w).symm)
theorem A_(U:Tx)(F:List Tx):xk U (up F):=fun v w _ _ l ⟨u,hu,h⟩=>⟨u,hu,h.trans l⟩
theorem y9{U:Tx}{F:List Tx}(hF:∀v∈F,Sub U v){w:Tx}:Min U (up F) w↔w∈F∧∀v∈F,le v w→v=w:=by
 constructor
 ·rintro⟨a,⟨v,hv,l⟩,c⟩
  have e:=c v (hF v hv) ⟨v,hv,le.refl v⟩ l
  subst e
  exact⟨hv,fun u hu l=>c u (hF u hu) ⟨u,hu,le.refl u⟩ l⟩
 ·rintro⟨a,b⟩
  refine⟨hF w a,⟨w,a,le.refl w⟩,fun v hv ⟨u,hu,l⟩ lv=>?_⟩
  have e:=b u hu (l.trans lv)
  subst e
  exact hv.1.ext (hF u hu).1 lv l
def jf(K:List Tx):List Tx→List Tx
 |[]=>K
 |w::r=>if K.any (fun k=>decide (le k w))then jf K r else jf (K++[w]) r
theorem kf:∀(S K Pre:List Tx),(∀v∈Pre++S,Srt v)→(∀v∈Pre,∃k∈K,le k v)→(∀k∈K,k∈Pre)→(∀v∈Pre,∀w∈S,¬jM w v)→S.Pairwise (fun a b=>¬jM b a)→
  (∀k∈K,∀v∈Pre,le v k→v=k)→K.Pairwise jM→(jf K S).Pairwise jM∧∀w,w∈jf K S↔w∈Pre++S∧∀v∈Pre++S,le v w→v=w
 |[],K,Pre,hs,h1,h2,h3,h4,h5,h6=>by
  refine⟨h6,fun w=>?_⟩
  simp only[jf,List.append_nil]
  refine⟨fun hw=>⟨h2 w hw,h5 w hw⟩,fun⟨a,b⟩=>?_⟩
  obtain⟨k,hk,l⟩:=h1 w a
  rw[←b k (h2 k hk) l]
  exact hk
 |w::S,K,Pre,hs,h1,h2,h3,h4,h5,h6=>by
  have e:Pre++w::S=(Pre++[w])++S:=by simp
  have h4':=List.pairwise_cons.mp h4
  have sw:Srt w:=hs w (by simp)
  have back:∀k∈K,le w k→w=k:=fun k hk l=>Classical.byContradiction fun n=>h3 k (h2 k hk) w (by simp) (u0 (yZ sw (hs k (by simp[h2 k hk])) l n))
  have o3:∀v∈Pre++[w],∀u∈S,¬jM u v:=fun v hv u hu=>by
   rcases Zan.mp hv with q |q
   ·exact h3 v q u (g6 _ hu)
   ·rw[Zaf.mp q];exact h4'.1 u hu
  rw[e]at hs ⊢
  by_cases h:K.any (fun k=>decide (le k w))=true
  ·rw[jf,if_pos h]
   obtain⟨k0,hk0,l0⟩:=List.any_eq_true.mp h
   refine kf S K (Pre++[w]) hs (fun v hv=>?_) (fun k hk=>by simp[h2 k hk]) o3 h4'.2 (fun k hk v hv l=>?_) h6
   ·rcases Zan.mp hv with q |q
    ·exact h1 v q
    ·rw[Zaf.mp q];exact⟨k0,hk0,of_decide_eq_true l0⟩
   ·rcases Zan.mp hv with q |q
    ·exact h5 k hk v q l
    ·rw[Zaf.mp q]at l ⊢;exact back k hk l
  ·rw[jf,if_neg h]
   have no:∀k∈K,¬le k w:=fun k hk l=>h (List.any_eq_true.mpr ⟨k,hk,decide_eq_true l⟩)
   refine kf S (K++[w]) (Pre++[w]) hs (fun v hv=>?_) (fun k hk=>?_) o3 h4'.2 (fun k hk v hv l=>?_) ?_
   ·rcases Zan.mp hv with q |q
    ·obtain⟨k,hk,l⟩:=h1 v q;exact⟨k,by simp[hk],l⟩
    ·rw[Zaf.mp q];exact⟨w,by simp,le.refl w⟩
   ·rcases Zan.mp hk with q |q
    ·simp[h2 k q]
    ·simp[Zaf.mp q]
   ·rcases Zan.mp hk with p |p <;> rcases Zan.mp hv with q |q
    ·exact h5 k p v q l
    ·rw[Zaf.mp q]at l ⊢;exact back k p l
    ·rw[Zaf.mp p]at l ⊢
     obtain⟨k',hk',l'⟩:=h1 v q
     exact absurd (l'.trans l) (no k' hk')
    ·rw[Zaf.mp p,Zaf.mp q]
   ·refine List.pairwise_append.mpr ⟨h6,List.pairwise_singleton _ _,fun k hk u hu=>?_⟩
    rw[Zaf.mp hu]
    refine Classical.byContradiction fun n=>no k hk ?_
    rw[pP n (h3 k (h2 k hk) w (by simp))]
    exact le.refl w
def iZ(F:List Tx):List Tx:=F.mergeSort fun a b=> !NhSG.gC (key b) (key a)
theorem sortT_mem{F:List Tx}{w:Tx}:w∈iZ F↔w∈F:=(List.mergeSort_perm F _).mem_iff
theorem pS(F:List Tx):(iZ F).Pairwise fun a b=>¬jM b a:=by
 have h:=List.pairwise_mergeSort (le:=fun a b=> !NhSG.gC (key b) (key a)) (fun a b c h1 h2=>by
  have h1':¬jM b a:=by simpa[jM]using h1
  have h2':¬jM c b:=by simpa[jM]using h2
  have:¬jM c a:=fun z=>by
   by_cases q:jM a b
   ·exact h2' (pQ z q)
   ·rw[pP q h1']at z;exact h2' z
  simpa[jM]using this) (fun a b=>by
  by_cases q:NhSG.gC (key b) (key a)=true
  ·have:¬jM a b:=pR q
   have:NhSG.gC (key a) (key b)=false:=by simpa[jM]using this
   simp[this]
  ·simp[Bool.not_eq_true _▸q]) F
 exact h.imp fun {a b} h=>by simpa[jM]using h
def bg(F:List Tx):List Tx:=jf [] (iZ F)
theorem jg{U:Tx}{F:List Tx}(hF:∀v∈F,Sub U v):Told U (bg F) (up F):=by
 obtain⟨a,b⟩:=kf (iZ F) [] [] (fun v hv=>(hF v (sortT_mem.mp (by simpa using hv))).1) (fun v hv=>by cases hv) (fun v hv=>by cases hv) (fun v hv=>by cases hv) (pS F) (fun v hv=>by cases hv) .nil
 refine⟨a,fun w=>(b w).trans ?_⟩
 rw[y9 hF]
 simp only[Z8,sortT_mem]
def comp(U w:Tx):Tx:=U.filter fun x=> !decide (x∈w)
theorem comp_mem{U w:Tx}{x:Nat}:x∈comp U w↔x∈U∧x∉w:=by simp[comp]
theorem tz{U w:Tx}(hU:Srt U):Sub U (comp U w):=⟨hU.filter _,fun x hx=>(comp_mem.mp hx).1⟩
def Ba(U:Tx)(f:Tx→Prop)(w:Tx):Prop:=¬f (comp U w)
def kZ(F:List Tx)(w:Tx):Prop:=∀v∈F,∃x∈v,x∈w
theorem jC{U:Tx}{F:List Tx}(hF:∀v∈F,Sub U v){w:Tx}:kZ F w↔Ba U (up F) w:=by
 constructor
 ·rintro h ⟨v,hv,l⟩
  obtain⟨x,hx,hw⟩:=h v hv
  exact(comp_mem.mp (l x hx)).2 hw
 ·intro h v hv
  refine Classical.byContradiction fun n=>h ⟨v,hv,fun x hx=>comp_mem.mpr ⟨(hF v hv).2 x hx,fun z=>n ⟨x,hx,z⟩⟩⟩
theorem u4{U V:Tx}{f:Tx→Prop}{L:List Tx}(hU:Srt U)(hV:Srt V)(l:le V U)(m:xk U f)(h:∀w,Sub U w→f w→f (w.filter fun x=>decide (x∈V)))(t:Told V L f):Told U L f:=by
 refine⟨t.srt,fun w=>(t.mem w).trans ?_⟩
 have up':∀{w},Sub V w→Sub U w:=fun a=>⟨a.1,a.2.trans l⟩
 have cut:∀{w},Sub U w→Sub V (w.filter fun x=>decide (x∈V)):=fun a=>⟨a.1.filter _,fun x hx=>by simpa using(List.mem_filter.mp hx).2⟩
 have cl:∀w:Tx,le (w.filter fun x=>decide (x∈V)) w:=fun w x hx=>(List.mem_filter.mp hx).1
 constructor
 ·rintro⟨a,b,c⟩
  refine⟨up' a,b,fun v v1 v2 v3=>?_⟩
  have e:=c _ (cut v1) (h v v1 v2) ((cl v).trans v3)
  refine v1.1.ext a.1 v3 ?_
  rw[←e]
  exact cl v
 ·rintro⟨a,b,c⟩
  have e:=c _ (up' (cut a)) (h w a b) (cl w)
  rw[←e]
  refine⟨cut a,h w a b,fun v v1 v2 v3=>?_⟩
  rw[e]at v3 ⊢
  exact c v (up' v1) v2 v3
end NhFam
namespace NhFam
def fk(w:Tx):List Tx:=w.foldl (fun acc a=>acc++acc.map (· ++[a])) [[]]
theorem tD:∀(V:Tx) (acc:List Tx) (w:Tx),w∈V.foldl (fun acc a=>acc++acc.map (· ++[a])) acc↔∃u∈acc,∃t,t.Sublist V∧w=u++t
 |[],acc,w=>by
  constructor
  ·intro h;exact⟨w,h,[],.slnil,by simp⟩
  ·rintro⟨u,hu,t,ht,rfl⟩
   have:t=[]:=by simpa using ht
   subst this
   simpa using hu
 |a::V,acc,w=>by
  rw[List.foldl_cons,tD V]
  constructor
  ·rintro⟨u,hu,t,ht,rfl⟩
   rcases Zan.mp hu with q |q
   ·exact⟨u,q,t,ht.cons _,rfl⟩
   ·obtain⟨v,hv,rfl⟩:=Zba.mp q
    exact⟨v,hv,a::t,ht.cons_cons _,by simp⟩
  ·rintro⟨u,hu,t,ht,rfl⟩
   cases ht with
   |cons _ h=>exact⟨u,by simp[hu],t,h,rfl⟩
   |cons_cons _ h=>exact⟨u++[a],by simp[hu],_,h,by simp⟩
theorem gg{V:Tx}(hV:Srt V){w:Tx}:w∈fk V↔Sub V w:=by
 unfold fk
 rw[tD]
 constructor
 ·rintro⟨u,hu,t,ht,rfl⟩
  rw[Zaf.mp hu,List.nil_append]
  exact⟨List.Pairwise.sublist ht hV,fun x hx=>ht.subset hx⟩
 ·intro h
  exact⟨[],by simp,w,eO h.1 hV h.2,rfl⟩
theorem jh(V:Tx):(fk V).length=2 ^ V.length:=by
 have key:∀(V:Tx) (acc:List Tx),(V.foldl (fun acc a=>acc++acc.map (· ++[a])) acc).length=acc.length*2 ^ V.length:=fun V=>by
  induction V with
  |nil=>intro acc;simp
  |cons a V ih=>
   intro acc
   rw[List.foldl_cons,ih,vn,eQ,List.length_cons,Nat.pow_succ,←Nat.two_mul,Nat.mul_comm 2,Nat.mul_assoc,Nat.mul_comm 2]
 unfold fk
 rw[key]
 simp
def i3(F:List Tx)(w:Tx):Bool:=F.all fun v=> !decide (∀x∈v,x∉w)
theorem xl{F:List Tx}{w:Tx}:i3 F w=true↔kZ F w:=by
 unfold i3 kZ
 rw[List.all_eq_true]
 refine⟨fun h v hv=>?_,fun h v hv=>?_⟩
 ·have:=h v hv
  simp only[Bool.not_eq_true',decide_eq_false_iff_not]at this
  obtain⟨x,h⟩:=Classical.not_forall.mp this
  obtain⟨a,b⟩:=Classical.not_imp.mp h
  exact⟨x,a,Classical.not_not.mp b⟩
 ·obtain⟨x,a,b⟩:=h v hv
  simp only[Bool.not_eq_true',decide_eq_false_iff_not]
  exact fun z=>z x a b
theorem tE{U V:Tx}{f:Tx→Prop}{G:List Tx}(hU:Srt U)(hV:Srt V)(l:le V U)(m:xk U f)(hG:∀w,w∈G↔Sub V w∧f w)(h:∀w,Sub U w→f w→f (w.filter fun x=>decide (x∈V))):Told U (bg G) f:=by
 refine u4 hU hV l m h ((jg fun v hv=>((hG v).mp hv).1).congr fun w hw=>?_)
 constructor
 ·rintro⟨v,hv,q⟩
  obtain⟨a,b⟩:=(hG v).mp hv
  exact m v w ⟨a.1,a.2.trans l⟩ ⟨hw.1,hw.2.trans l⟩ q b
 ·intro q
  exact⟨w,(hG w).mpr ⟨hw,q⟩,le.refl w⟩
theorem tF{U:Tx}{F:List Tx}(hF:∀v∈F,Sub U v){w:Tx}:kZ (bg F) w↔kZ F w:=by
 have t:=jg hF
 constructor
 ·intro h v hv
  obtain⟨k,hk,l⟩:=(t.up_iff (A_ U F) (hF v hv)).mpr ⟨v,hv,le.refl v⟩
  obtain⟨x,a,b⟩:=h k hk
  exact⟨x,l x a,b⟩
 ·intro h v hv
  exact h v ((y9 hF).mp ((t.mem v).mp hv)).1
def nY(F:List Tx)(V:Tx):List Tx:=bg ((fk V).filter (i3 (bg F)))
theorem xm{F:List Tx}{V w:Tx}(hF:∀v∈F,le v V)(h:kZ F w):kZ F (w.filter fun x=>decide (x∈V)):=fun v hv=>by
 obtain⟨x,a,b⟩:=h v hv
 exact⟨x,a,List.mem_filter.mpr ⟨b,decide_eq_true (hF v hv x a)⟩⟩
theorem jD{U V:Tx}{F:List Tx}(hU:Srt U)(hV:Srt V)(l:le V U)(hF:∀v∈F,Sub U v)(hFV:∀v∈F,le v V):Told U (nY F V) (Ba U (up F)):=by
 refine(tE (f:=kZ F) hU hV l (fun v w _ _ q h u hu=>?_) (fun w=>?_) fun w _ h=>xm hFV h).congr fun w hw=>jC hF
 ·obtain⟨x,a,b⟩:=h u hu
  exact⟨x,a,q x b⟩
 ·rw[List.mem_filter,gg hV,xl,tF hF]
end NhFam
namespace L2
open PySem PySem.Spec PyProof.Rows
section
variable {X:Cx} {n:Nat}
def FU(X:Cx)(n:Nat)(e:Expr)(t:TE):Prop:=∀(pins:List (Addr×Obj)) (s:Shared) (σ:St) (H:Hp) (Q:VK),n≤s.toks→Inv X pins σ H s→t σ H Q→wpAny (model X.prog X.w) X.A (eval e X.env) (EP X pins σ Q) X.xe s
def DQ(X:Cx)(n:Nat)(e:Expr)(t:TT):Prop:=∀(pins:List (Addr×Obj)) (s:Shared) (σ:St) (H:Hp) (Q:Bool→Hp→Prop),n≤s.toks→Inv X pins σ H s→t σ H Q→wpAny (model X.prog X.w) X.A (isTrue e X.env (eval e X.env)) (TP X pins σ Q) X.xe s
def PWT(X:Cx)(n:Nat)(e:Expr)(t:TT):Prop:=∀(whole:Sem Value) (pins:List (Addr×Obj)) (s:Shared) (σ:St) (H:Hp) (Q:Bool→Hp→Prop),n≤s.toks→Inv X pins σ H s→t σ H Q→wpAny (model X.prog X.w) X.A (isTrue e X.env whole) (TP X pins σ Q) X.xe s
def B_(X:Cx)(n:Nat)(st:Stmt)(t:TS):Prop:=∀(pins:List (Addr×Obj)) (s:Shared) (σ:St) (H:Hp) (D:Ends),n≤s.toks→Inv X pins σ H s→t D σ H→wpAny (model X.prog X.w) X.A (exec st X.env) (SP X pins D) X.xe s
def oE(X:Cx)(n:Nat)(st:List Stmt)(t:TS):Prop:=∀(pins:List (Addr×Obj)) (s:Shared) (σ:St) (H:Hp) (D:Ends),n≤s.toks→Inv X pins σ H s→t D σ H→wpAny (model X.prog X.w) X.A (execs st X.env) (SP X pins D) X.xe s
theorem lX{α:Type}{t:Sem α}{Q Q':α→Shared→Prop}{M:Model}{A:Around}{E:Value→Shared→Prop}{s:Shared}(hn:n≤s.toks)(h:wpAny M A t Q E s)(hQ:∀a s,n≤s.toks→Q a s→Q' a s):wpAny M A t Q' E s:=wpAny_mono (wpAny_toks_of hn h) (fun a s z=>hQ a s z.1 z.2) fun _ _ z=>z.2
theorem PE.tk{e:Expr}{t:TE}(h:PE X e t):FU X n e t:=fun pins s σ H Q _ I z=>h pins s σ H Q I z
theorem PT.tk{e:Expr}{t:TT}(h:PT X e t):DQ X n e t:=fun pins s σ H Q _ I z=>h pins s σ H Q I z
theorem PS.tk{st:Stmt}{t:TS}(h:PS X st t):B_ X n st t:=fun pins s σ H D _ I z=>h pins s σ H D I z
theorem PSs.tk{st:List Stmt}{t:TS}(h:PSs X st t):oE X n st t:=fun pins s σ H D _ I z=>h pins s σ H D I z
theorem PWT.pt{e:Expr}{t:TT}(h:PWT X n e t):DQ X n e t:=h _
theorem xn{st:Stmt}{aU:List Stmt}{t u:TS}(h1:B_ X n st t)(h2:oE X n aU u):oE X n (st::aU) (DW t u):=by
 intro pins s σ H D hn I h
 refine wpAny_execs_cons (lX hn (h1 pins s σ H {D with nx:=u D} hn I h) fun f s1 n1 q=>?_)
 cases f with
 |next=>
  obtain⟨σ',H',I',q⟩:=q
  exact h2 pins s1 σ' H' D n1 I' q
 |ret v=>exact q
 |brk=>exact q
 |cont=>exact q
theorem tI{st:Stmt}{t:TS}(h1:B_ X n st t):oE X n [st] t:=by
 intro pins s σ H D hn I h
 refine wpAny_execs_cons (lX hn (h1 pins s σ H D hn I h) fun f s1 n1 q=>?_)
 cases f with
 |next=>exact wpAny_execs_nil q
 |ret v=>exact q
 |brk=>exact q
 |cont=>exact q
theorem Dm{c:Expr}{a b:List Stmt}{tc:TT}{t u:TS}{pos:Pos}(hc:DQ X n c tc)(ha:oE X n a t)(hb:oE X n b u):B_ X n (.If c a b pos) (DZ tc t u):=by
 intro pins s σ H D hn I h
 refine wpAny_If (lX hn (hc pins s σ H _ hn I h) fun d s1 n1 q=>?_)
 obtain⟨H1,I1,q1⟩:=q
 cases d with
 |true=>exact ha pins s1 σ H1 D n1 I1 q1
 |false=>exact hb pins s1 σ H1 D n1 I1 q1
theorem Bb{a:Expr}{tA:TT}{pos:Pos}(ha:DQ X n a tA):PWT X n (.BoolOp .Or [a] pos) tA:=by
 intro wh pins s σ H Q hn I h
 refine isTrue_or (dJ (ha pins s σ H Q hn I h) fun c s1 e=>?_)
 cases c with
 |false=>exact isTrue_or_nil e
 |true=>exact e
theorem Do{a b:Expr}{aU:List Expr}{tA tB:TT}{pos:Pos}(ha:DQ X n a tA)(hb:PWT X n (.BoolOp .Or (b::aU) pos) tB):PWT X n (.BoolOp .Or (a::b::aU) pos) (FZ tA tB):=by
 intro wh pins s σ H Q hn I h
 refine isTrue_or (lX hn (ha pins s σ H _ hn I h) fun c s1 n1 q=>?_)
 obtain⟨H1,I1,q1⟩:=q
 cases c with
 |true=>exact⟨H1,I1,q1⟩
 |false=>exact hb wh pins s1 σ H1 Q n1 I1 q1
inductive AtTurn (X:Cx) (n:Nat) (pins:List (Addr×Obj)) (fp:List Addr) (tn:Nat→Heap→Prop) (W:Nat→Nat→St→Hp→Prop) (left:Nat) (s:Shared):Prop
 |mk {i:Nat} {σ:St} {H:Hp} (bound:n≤s.toks) (inv:Inv X pins σ H s) (state:tn i s.heap) (apart:∀b∈fp,H b=none) (plan:W i left σ H):AtTurn X n pins fp tn W left s
theorem Bc{tg iter:Expr}{body:List Stmt}{wi:TI}{g:TG}{tb:TS}{pos:Pos}(hp:PassesOwn (model X.prog X.w) X.A X.env X.xe)(calm:X.calm=true)(over:PI X tg iter wi)(name:PG X tg g)(turns:oE X n body tb)
  (hs:∀x,foldedSetIterable iter X.env x=pure x:=by intro _;rfl):B_ X n (.For tg iter body [] pos) (D6 wi g tb):=by
 intro pins s σ H D hn I h
 have begun:=over pins s σ H _ I h
 refine wpAny_For (lX hn begun fun _ _ b1 h1=>lX b1 h1 fun _ s2 b2 h2=>?_) hs
 rcases h2 with⟨it,fp,tn,J,H2,rfl,I2,T,st2,f2,W,⟨m0,w0⟩,plan⟩
 have fp_ok:∀H',(∀b∈fp,H' b=none)→∀b∈fp,kC X pins H' b:=fun _ none b hb=>⟨none b hb,(f2 b hb).2⟩
 have iv:AtTurn X n pins fp tn W m0 s2:=⟨b2,I2,st2,fun b hb=>(f2 b hb).1,w0⟩
 refine codeAny_forLoop_any (AtTurn X n pins fp tn W) (fun left s3 here=>?_) m0 iv
 rcases here with @⟨i,σ3,H3,b3,I3,st3,fr3,w3⟩
 have fp3:=fp_ok H3 fr3
 cases plan i left σ3 H3 w3 with
 |inl over=>
  have last:=T.done X rfl rfl rfl calm i pins s3 σ3 H3 X.xe I3 fp3 st3 over.1
  refine wpAny_passesOwn hp (dJ last fun r s4 told=>?_)
  cases told.1
  exact wpAny_execs_nil ⟨σ3,H3,told.2,over.2⟩
 |inr next=>
  obtain⟨go,N,fewer,step⟩:=next
  have item:=T.item X rfl rfl rfl calm i pins s3 σ3 H3 X.xe I3 fp3 st3 go
  refine wpAny_passesOwn hp (lX b3 item fun r s4 b4 got=>?_)
  obtain⟨u,rfl,keeps⟩:=got
  refine wpAny_passesOwn hp (lX b4 keeps fun _ s5 b5 kept=>?_)
  obtain⟨x,H5,I5,rx,yields,st5,fr5⟩:=kept
  have objs:=T.obj _ _ st5
  refine wpAny_passesOwn hp (lX b5 (name _ s5 σ3 H5 x u _ (I5.pinned (fp_ok H5 fr5) objs) rx (step x H5 yields)) fun _ s6 b6 named=>?_)
  obtain⟨σ6,H6,I6,q6⟩:=named
  have back:∀s7,n≤s7.toks→∀σ7 H7,Inv X (pins++jX fp s5.heap) σ7 H7 s7→N σ7 H7→∃m,m < left∧AtTurn X n pins fp tn W m s7:=fun s7 b7 σ7 H7 I7 k7=>by
   obtain⟨m,lt,w7⟩:=fewer σ7 H7 k7
   have pinned:∀b∈fp,∀o,s5.heap.get? b=some o→s7.heap.get? b=some o∧H7 b=none:=fun b hb o e=>
    let z:=I7.pin (b,o) (lD _ (lD _ (fe hb e)))
    ⟨z.1,z.2.1⟩
   refine⟨m,lt,b7,I7.unpinned,T.keep _ _ _ st5 fun b hb o e=>(pinned b hb o e).1,fun b hb=>?_,w7⟩
   obtain⟨o,e,_⟩:=objs b hb
   exact(pinned b hb o e).2
  refine wpAny_passesOwn hp (lX b6 (turns _ s6 σ6 H6 _ b6 I6 q6) fun f s7 b7 told=>?_)
  cases f with
  |next=>
   obtain⟨σ7,H7,I7,k7⟩:=told
   exact back s7 b7 σ7 H7 I7 k7
  |cont=>
   obtain⟨σ7,H7,I7,k7⟩:=told
   exact back s7 b7 σ7 H7 I7 k7
  |brk=>
   obtain⟨σ7,H7,I7,k7⟩:=told
   exact⟨σ7,H7,I7.unpinned,k7⟩
  |ret v=>
   obtain⟨y,σ7,H7,I7,ry,k7⟩:=told
   exact⟨y,σ7,H7,I7.unpinned,ry,k7⟩
end
end L2
namespace L2
open PySem PySem.Spec PyProof.Rows
def Strt{α:Type}:Sem α→Prop
 |.pure _=>True
 |.raise _=>True
 |.unsupported _=>True
 |.rule _ k=>Strt (k ())
 |.at _ k=>Strt (k ())
 |.load _ _ k=>∀o,Strt (k o)
 |.update _ _ _ k=>Strt (k ())
 |.loadIfAlive _ k=>∀o,Strt (k o)
 |.point _ k=>Strt (k ())
 |.alloc _ k=>∀a,Strt (k a)
 |.fresh k=>∀t,Strt (k t)
 |.handled _ k=>∀x,Strt (k x)
 |.stack k=>∀x,Strt (k x)
 |.ask k=>∀x,Strt (k x)
 |_=>False
theorem Strt.bind{α β:Type}{k:α→Sem β}(hk:∀a,Strt (k a)):∀{t:Sem α},Strt t→Strt (t >>= k)
 |.pure a,_=>hk a
 |.raise _,_=>trivial
 |.unsupported _,_=>trivial
 |.rule _ f,h=>Strt.bind hk (t:=f ()) h
 |.at _ f,h=>Strt.bind hk (t:=f ()) h
 |.load _ _ f,h=>fun o=>Strt.bind hk (t:=f o) (h o)
 |.update _ _ g f,h=>Strt.bind hk (t:=f ()) h
 |.loadIfAlive _ f,h=>fun o=>Strt.bind hk (t:=f o) (h o)
 |.point _ f,h=>Strt.bind hk (t:=f ()) h
 |.alloc _ f,h=>fun a=>Strt.bind hk (t:=f a) (h a)
 |.fresh f,h=>fun a=>Strt.bind hk (t:=f a) (h a)
 |.handled _ f,h=>fun a=>Strt.bind hk (t:=f a) (h a)
 |.stack f,h=>fun a=>Strt.bind hk (t:=f a) (h a)
 |.ask f,h=>fun a=>Strt.bind hk (t:=f a) (h a)
 |.finish _,h=>h.elim
 |.register _ _,h=>h.elim
 |.choose _ _ _,h=>h.elim
 |.os _ _ _,h=>h.elim
 |.call _ _ _ _ _,h=>h.elim
 |.newGen _ _,h=>h.elim
 |.genState _ _,h=>h.elim
 |.resume _ _ _ _,h=>h.elim
 |.yield _ _ _ _,h=>h.elim
 |.fork _ _,h=>h.elim
 |.thread _,h=>h.elim
 |.await _ _ _ _ _,h=>h.elim
theorem e9{α:Type}{M:Model}{Γ:PySem.Ctx}{Q Q':α→Pos→Shared→Prop}{E E':Value→Pos→Shared→Prop}:∀{t:Sem α} {p:Pos} {s:Shared},Strt t→Sem.wp M Γ t Q E p s→Sem.wp M Γ t Q' E' p s→Sem.wp M Γ t (fun a p s=>Q a p s∧Q' a p s) (fun a p s=>E a p s∧E' a p s) p s
 |.pure a,p,s,_,h,h'=>by rw[Sem.wp]at h h' ⊢;exact⟨h,h'⟩
 |.raise _,p,s,_,h,h'=>by rw[Sem.wp]at h h' ⊢;exact⟨h,h'⟩
 |.unsupported _,p,s,_,h,_=>by rw[Sem.wp]at h;exact h.elim
 |.rule _ f,p,s,t,h,h'=>by rw[Sem.wp]at h h' ⊢;exact e9 (t:=f ()) t h h'
 |.at _ f,p,s,t,h,h'=>by rw[Sem.wp]at h h' ⊢;exact e9 (t:=f ()) t h h'
 |.load _ _ f,p,s,t,h,h'=>by
  rw[Sem.wp]at h h' ⊢
  obtain⟨o,ho,h⟩:=h
  obtain⟨o',ho',h'⟩:=h'
  have e:o'=o:=Option.some.inj (ho'.symm.trans ho)
  subst e
  exact⟨o',ho,e9 (t:=f o') (t o') h h'⟩
 |.update _ _ g f,p,s,t,h,h'=>by rw[Sem.wp]at h h' ⊢;exact⟨h.1,e9 (t:=f ()) t h.2 h'.2⟩
 |.loadIfAlive _ f,p,s,t,h,h'=>by rw[Sem.wp]at h h' ⊢;exact e9 (t:=f _) (t _) h h'
 |.point _ f,p,s,t,h,h'=>by rw[Sem.wp]at h h' ⊢;exact e9 (t:=f ()) t h h'
 |.alloc _ f,p,s,t,h,h'=>by rw[Sem.wp]at h h' ⊢;exact e9 (t:=f _) (t _) h h'
 |.fresh f,p,s,t,h,h'=>by rw[Sem.wp]at h h' ⊢;exact e9 (t:=f _) (t _) h h'
 |.handled _ f,p,s,t,h,h'=>by rw[Sem.wp]at h h' ⊢;exact e9 (t:=f _) (t _) h h'
 |.stack f,p,s,t,h,h'=>by rw[Sem.wp]at h h' ⊢;exact e9 (t:=f _) (t _) h h'
 |.ask f,p,s,t,h,h'=>by rw[Sem.wp]at h h' ⊢;exact e9 (t:=f _) (t _) h h'
 |.finish _,_,_,h,_,_=>h.elim
 |.register _ _,_,_,h,_,_=>h.elim
 |.choose _ _ _,_,_,h,_,_=>h.elim
 |.os _ _ _,_,_,h,_,_=>h.elim
 |.call _ _ _ _ _,_,_,h,_,_=>h.elim
 |.newGen _ _,_,_,h,_,_=>h.elim
 |.genState _ _,_,_,h,_,_=>h.elim
 |.resume _ _ _ _,_,_,h,_,_=>h.elim
 |.yield _ _ _ _,_,_,h,_,_=>h.elim
 |.fork _ _,_,_,h,_,_=>h.elim
 |.thread _,_,_,h,_,_=>h.elim
 |.await _ _ _ _ _,_,_,h,_,_=>h.elim
theorem u5{α:Type}{M:Model}{A:Around}{Q Q':α→Shared→Prop}{E E':Value→Shared→Prop}{t:Sem α}{s:Shared}(T:Strt t)(h:wpAny M A t Q E s)(h':wpAny M A t Q' E' s):wpAny M A t (fun a s'=>Q a s'∧Q' a s') (fun x s'=>E x s'∧E' x s') s:=fun Γ p hΓ=>e9 T (h Γ p hΓ) (h' Γ p hΓ)
theorem u6(a:Addr)(x:Str)(v:Value):Strt (nsSet a x v):=by
 unfold nsSet
 refine Strt.bind (fun h=>Strt.bind (fun key=>Strt.bind (fun o=>?_) ?_) ?_) ?_
 ·split
  ·dsimp only
   split
   ·exact trivial
   ·exact trivial
  ·exact trivial
 ·exact fun o=>trivial
 ·unfold mkText
  exact fun t=>trivial
 ·unfold strHash
  exact fun t=>trivial
end L2
namespace L2
open PySem PySem.Spec PyProof.Rows
section
variable {X:Cx} {pins:List (Addr×Obj)} {σ:St} {H:Hp} {s:Shared}
def Dp(n:Nat)(nm:Str)(C:Addr)(s:Shared):Prop:=∃m y t,s.heap.Ns C m∧m nm=some (.str y t)∧n≤t∧t < s.toks
def EQ(X:Cx)(P:Shared→Prop)(e:Expr)(t:TE):Prop:=∀(pins:List (Addr×Obj)) (s:Shared) (σ:St) (H:Hp) (Q:VK),P s→Inv X pins σ H s→t σ H Q→wpAny (model X.prog X.w) X.A (eval e X.env) (EP X pins σ Q) X.xe s
theorem mH{M:Model}{A:Around}{E:Value→Shared→Prop}{i:Nat}{x:Str}{v:V}{u:Value}(I:Inv X pins σ H s)(hN:X.N.Nodup)(hi:X.N[i]? =some x)(hk:X.env.scope.names.lookup x=some .local)(r:RelV v u):
  wpAny M A (storeName X.env x u) (fun _ s'=>Inv X pins (σ.set i (some v)) H s'∧s'.toks=s.toks+1∧∃m,s'.heap.Ns X.env.locals m∧m x=some u) E s:=by
 obtain⟨m,hn,_⟩:=id I.loc
 have hcls:(X.env.scope.kind ==.class||(X.env.scope.kind ==.module&&X.env.locals != X.env.globals))=false:=by rw[I.ok.kind];rfl
 have st:Strt (storeName X.env x u):=by
  rw[storeName_local hk hcls]
  exact u6 _ _ _
 have a:=m_ (M:=M) (A:=A) (E:=E) (Q:=fun _ s'=>Inv X pins (σ.set i (some v)) H s') I hN hi (.inl hk) r (fun s' I'=>I') (.inr hk)
 have b:=wpAny_storeName_local (M:=M) (A:=A) (E:=E) (v:=u) (Q:=fun _ s'=>s'.toks=s.toks+1∧∃m,s'.heap.Ns X.env.locals m∧m x=some u) hk hn (fun h' hn' _=>⟨rfl,_,hn',by simp⟩) hcls
 exact wpAny_mono (u5 st a b) (fun _ _ z=>⟨z.1,z.2.1,z.2.2⟩) fun _ _ z=>z.1
theorem y_ {it:Addr} {T:String} {x:Str} {t:Tok} {tg:Expr} {i:Nat} {E:Value→Shared→Prop} (hT:T="str_ascii_iterator"∨T="str_iterator") (I:Inv X pins σ H s) (f:kC X pins H it) (st:s.heap.IsStrIter it T x t i) (hi:i < x.cps.toList.length):
  wpAny (model X.prog X.w) X.A (pyNext (.ref it)) (fun r s1=>r=some (Value.str ⟨#[x.cps.toList[i]]⟩ s.toks)∧wpAny (model X.prog X.w) X.A (letOwnedTupleGo tg (.ref it) (Value.str ⟨#[x.cps.toList[i]]⟩ s.toks)) (fun _ s2=>s2.toks=s.toks+1∧Inv X pins σ H s2∧s2.heap.IsStrIter it T x t (i+1)) E s1) E s:=by
 obtain⟨f0,f1,f2,f3,f4,f5⟩:=f
 have hx:x.cps[i]? =some x.cps.toList[i]:=by simp at hi;simp[hi]
 have fin:∀h':Heap,h'.IsStrIter it T x t (i+1)→Heap.SameBut it s.heap h'→(some (Value.str ⟨#[x.cps.toList[i]]⟩ s.toks)=some (Value.str ⟨#[x.cps.toList[i]]⟩ s.toks)∧wpAny (model X.prog X.w) X.A (letOwnedTupleGo tg (.ref it) (Value.str ⟨#[x.cps.toList[i]]⟩ s.toks)) (fun _ s2=>s2.toks=s.toks+1∧Inv X pins σ H s2∧s2.heap.IsStrIter it T x t (i+1)) E {s with heap:=h',toks:=s.toks+1}):=fun h' st' sb=>by
  have I1:Inv X pins σ H {s with heap:=h',toks:=s.toks+1}:=I.turned (t':=s.toks+1) (fun b o hb e=>(sb.2 b hb).trans e) f0 f1 f3 f4 f5
  obtain⟨o,e,c,d⟩:=id st'
  exact⟨rfl,rR (s:={s with heap:=h',toks:=s.toks+1}) e c d (by rcases hT with rfl |rfl <;> decide) ⟨rfl,I1,st'⟩⟩
 rcases hT with rfl |rfl
 ·exact wpAny_pyNext_ascii_item st hx fun h' st' sb=>fin h' st' sb
 ·exact wpAny_pyNext_wide_item st hx fun h' st' sb=>fin h' st' sb
def FV(X:Cx)(n:Nat)(pins:List (Addr×Obj))(σ:St)(R:It→Hp→Prop)(itv:Value)(s2:Shared):Prop:=∃(it:Addr) (x:Str) (tk:Tok) (T:String) (H':Hp),itv=.ref it∧n≤s2.toks∧Inv X pins σ H' s2∧(T="str_ascii_iterator"∨T="str_iterator")∧s2.heap.IsStrIter it T x tk 0∧kC X pins H' it∧R (DP x) H'
theorem Dq{n:Nat}{l:Expr}{tl:TE}(hl:PE X l tl)(pins:List (Addr×Obj))(s:Shared)(σ:St)(H:Hp)(R:It→Hp→Prop)(hn:n≤s.toks)(I:Inv X pins σ H s)(h:uG tl σ H R):wpAny (model X.prog X.w) X.A (eval l X.env) (fun v s1=>wpAny (model X.prog X.w) X.A (pyIter v) (FV X n pins σ R) X.xe s1) X.xe s:=by
 refine lX hn (hl pins s σ H _ I h) fun v s1 n1 z=>?_
 obtain⟨y,H1,I1,r1,x,e,q⟩:=z
 subst e
 obtain⟨t,rfl⟩:=r1
 refine wpAny_pyIter_strU ⟨s1.heap.objs.size,x,t,strIterType x,H1,rfl,n1,I1.kept (t':=s1.toks) fun b o e=>gz _ e,?_,⟨_,jU _ rfl,rfl,rfl⟩,I1.fpOk (fS _) (I1.hok.fresh (fS _)),q⟩
 unfold strIterType
 split
 ·exact .inl rfl
 ·exact .inr rfl
end
section
variable {X:Cx} {elt iter:Expr} {scope sc:Scope} {cl:List (Str×Addr)} {N:List Str} {pos pn:Pos} {tl:TE} {te:TE} {js:List (Option Nat)} {nm:Str}
theorem za{use:Option (Value→Sem Unit)}{Qv:Value→Shared→Prop}(K:CompOk X scope sc cl N js)(hc:X.calm=true)(n:Nat)(hN0:N[0]? =some nm)(hNd:N.Nodup)(hlk:sc.names.lookup nm=some .local)(hl:PE X iter tl)
  (hee:∀C s₀ H₀ fp,EQ (X.comp sc cl N C s₀ H₀ fp) (Dp n nm C) elt te)
  (hs:∀x,foldedSetIterable iter X.env x=pure x) (pins:List (Addr×Obj)) (s:Shared) (σ:St) (H:Hp) (Q:VK) (hn:n≤s.toks) (I:Inv X pins σ H s) (h:mq js (uG tl) (ni 0) Au te σ H Q)
  (hend:∀(D C:Addr) (H4:Hp) (s5:Shared) (m:Str→Option Value),Inv X pins σ H4 s5→s5.heap.Ns C m→H4 C=none→C≠X.env.locals→C∉X.fs→X.s₀.heap.objs.size≤C→(∀x c,X.env.cells.lookup x=some c→c≠C)→(∀p∈X.pn++pins,p.1≠C)→Q (.ref D) H4→
   compPost (model X.prog X.w) X.A X.xe use Qv (.ref D) C (.ok .next) s5):
  wpAny (model X.prog X.w) X.A (comprehension (.ListComp elt [⟨.Name nm pn,iter,[],0⟩] scope pos) scope X.env (firstIterPos [⟨.Name nm pn,iter,[],0⟩] pos) (newList []) false (firstIter [⟨.Name nm pn,iter,[],0⟩] X.env) use) Qv X.xe s:=by
 refine wpAny_comprehension_free (use:=use) rfl hs K.clos K.kind K.names (dJ (Dq hl pins s σ H _ hn I h) fun v s1 h1=>dJ h1 fun itv s2 h2=>?_)
 obtain⟨it,x,tk,T0,H2,e,n2,I2,hT,st2,fit,R⟩:=h2
 subst e
 have T:Turn X.prog X.w X.K (.Name nm pn) (DP x) [it] it (fun i h=>h.IsStrIter it T0 x tk i):=sx (t:=tk) hT
 have f2:∀b∈[it],kC X pins H2 b:=fun b hb=>by rw[Zaf.mp hb];exact fit
 obtain⟨fp,hfp⟩:∃fp,fp=[it]:=⟨_,rfl⟩
 rw[←hfp]at T f2
 refine wpAny_newObj_type (wpAny_newFunctionEnv K.nocell (by intro y hy;simp at hy) (fun h₁ hns₁ hsb₁=>?_) K.kind)
 dsimp only at hns₁ hsb₁ ⊢
 have I3:Inv X pins σ (upd H2 s2.heap.objs.size (.lst [])) {s2 with heap:=s2.heap.push {cls:=.type "list",dict:=none,data:=.seq ([]:List Value).toArray}}:=
  I2.lnew (t':=s2.toks) (its:=[]) .nil (Nat.zero_le _)
 obtain⟨W,⟨m0,w0⟩,turn⟩:=R s2.heap.objs.size (I2.hok.fresh (fS _))
 generalize hP:s2.heap.push {cls:=.type "list",dict:=none,data:=.seq ([]:List Value).toArray}=h3 at hns₁ hsb₁ I3 ⊢
 generalize hD:s2.heap.objs.size=D at w0 turn I3 ⊢
 have hsz3:h3.objs.size=D+1:=by rw[←hP,Heap.size_push,hD]
 have old3:∀b o,s2.heap.get? b=some o→h3.get? b=some o:=fun b o e=>by rw[←hP];exact gz _ e
 have old:∀b o,h3.get? b=some o→h₁.get? b=some o:=fun b o e=>hsb₁.extBut b o (gK (gn e)) (gz _ e)
 have fpD:∀b∈fp,b < D:=fun b hb=>by
  obtain⟨o,e,_⟩:=T.obj _ _ st2 b hb
  rw[←hD];exact gn e
 have frD:∀b∈fp,(upd H2 D (.lst [])) b=none:=fun b hb=>by rw[aX (gK (fpD b hb))];exact(f2 b hb).1
 have f3:∀b∈fp,kC X pins (upd H2 D (.lst [])) b:=fun b hb=>⟨frD b hb,(f2 b hb).2⟩
 have Hfresh:∀a,h3.objs.size≤a→(upd H2 D (.lst [])) a=none:=fun a ha=>I3.hok.fresh ha
 have cellC:∀x c,X.env.cells.lookup x=some c→c < h3.objs.size:=fun x c e=>by
  obtain⟨v,q⟩:=I3.cell x c e
  exact q.lt
 have YOk:(X.comp sc cl N h3.objs.size {s2 with heap:=h3} (upd H2 D (.lst [])) fp).Ok:=by
  refine⟨I3.ok.mod,?_,I3.ok.glob,I3.ok.blt,fS _,fun x y c e1 e2=>I3.ok.inj x y c (K.same x c e1) (K.same y c e2),fun x hx=>K.has x hx,fun x c hf _=>absurd hf (by intro z;cases z),I3.ok.hd,I3.ok.frames,.inl rfl,fun b hb=>⟨?_,fun x c e=>(f2 b hb).2.2.2.2.1 x c (K.same x c e)⟩,
   I3.bs,jK I3.ok.bsz I3.sz,fun b o e hb=>?_,fun b hb hm=>?_,I3.stack,I3.stkFree,I3.tab⟩
  ·rw[←K.rel];exact K.kind
  ·exact gK (by rw[hsz3];exact rO (fpD b hb))
  ·rcases(f2 b hb).2.2.2.1 with z |z
   ·exact I3.ok.noex b o e z
   ·exact absurd (lE (gn (I3.ok.bs b o e).1) z) (Nat.lt_irrefl _)
  ·rcases Zaq.mp (I3.stkSub b hm)with z |z
   ·exact(f2 b hb).2.1 z
   ·exact(f2 b hb).2.2.1 z
 have IY:Inv (X.comp sc cl N h3.objs.size {s2 with heap:=h3} (upd H2 D (.lst [])) fp) [] (slots js σ) (upd H2 D (.lst [])) {s2 with heap:=h₁,toks:=s2.toks+([]:List (Str×Value)).length}:=by
  refine⟨YOk,rfl,I3.bare,Un.kept old,⟨_,hns₁,fun i x v e1 e2 e3=>?_⟩,fun x c e=>?_,Hfresh _ (fS _),fun x c e=>I3.freeC x c (K.same x c e),fun p hp=>absurd (show p∈([]:List (Addr×Obj))from hp) (by simp),I3.hok.kept old,?_⟩
  ·unfold slots at e2
   rw[we]at e2
   cases ej:js[i]? with
   |none=>rw[ej]at e2;cases e2
   |some jo=>
    rw[ej]at e2
    cases jo with
    |none=>cases e2
    |some j=>
     obtain⟨y,n1,n2,k1,k2⟩:=K.from_ i j ej
     have exy:y=x:=Option.some.inj (n1.symm.trans e1)
     subst exy
     have e2':(σ[j]?).join=some v:=Option.some.inj e2
     have e4:σ[j]? =some (some v):=by
      cases es:σ[j]? with
      |none=>rw[es]at e2';cases e2'
      |some w=>rw[es]at e2';exact congrArg some e2'
     obtain⟨m,_,hl⟩:=I3.loc
     obtain⟨u,ru,lk⟩:=hl j y v n2 e4 (by
      rcases k2 with z |z
      ·exact .inr (.inl z)
      ·exact .inr (.inr z))
     refine⟨u,ru,.inr ⟨k1,?_⟩⟩
     obtain⟨c,hcl⟩:=K.has y k1
     refine⟨c,hcl,?_⟩
     rcases lk with⟨z,_⟩ |⟨_,c',e5,ic⟩
     ·rcases k2 with q |q
      ·rw[q]at z;cases z
      ·rw[q]at z;cases z
     ·have:c'=c:=Option.some.inj (e5.symm.trans (K.same y c hcl))
      subst this
      obtain⟨o,ho,hd⟩:=ic
      exact⟨o,old _ _ ho,hd⟩
  ·obtain⟨v,o,ho,hd⟩:=I3.cell x c (K.same x c e)
   exact⟨v,o,old _ _ ho,hd⟩
  ·unfold slots;rw[eQ];exact K.len
 have qc:∀s₃:Shared,s₃={s2 with heap:=h₁,toks:=s2.toks+([]:List (Str×Value)).length}→
   codeAny (model X.prog X.w) X.A (.compLoop (.ListComp elt [⟨.Name nm pn,iter,[],0⟩] scope pos) 0 (.ref it) (.ref D) (X.comp sc cl N h3.objs.size {s2 with heap:=h3} (upd H2 D (.lst [])) fp).env)
    (compPost (model X.prog X.w) X.A X.xe use Qv (.ref D) h3.objs.size) s₃:=by
  rintro s₃ rfl
  refine kF (fun k s'=>n≤s'.toks∧∃i σ' H',Inv (X.comp sc cl N h3.objs.size {s2 with heap:=h3} (upd H2 D (.lst [])) fp) [] σ' H' s'∧s'.heap.IsStrIter it T0 x tk i∧(∀b∈fp,H' b=none)∧W i k σ' H') ?_ m0
   ⟨n2,0,_,_,IY,T.keep _ _ _ st2 (fun b hb o e=>old b o (old3 b o e)),frD,w0⟩
  rintro k s4 ⟨n4,i,σ4,H4,I4,st4,fr4,w4⟩
  have ff:∀{H':Hp},(∀b∈fp,H' b=none)→∀b∈fp,kC (X.comp sc cl N h3.objs.size {s2 with heap:=h3} (upd H2 D (.lst [])) fp) [] H' b:=fun hn b hb=>
   ⟨hn b hb,(YOk.exf b hb).1,YOk.exfs b hb,.inl hb,(YOk.exf b hb).2,fun p hp=>absurd (show p∈([]:List (Addr×Obj))from hp) (by simp)⟩
  have he:=hee h3.objs.size {s2 with heap:=h3} (upd H2 D (.lst [])) fp
  rcases turn i k σ4 H4 w4 with⟨stop,qn⟩ |⟨go,Nx,hN,step⟩
  ·refine dJ (T.done (X.comp sc cl N h3.objs.size {s2 with heap:=h3} (upd H2 D (.lst [])) fp) rfl rfl rfl hc i [] s4 σ4 H4 _ I4 (ff fr4) st4 stop) fun r s5 ⟨hr,I5⟩=>?_
   subst hr
   obtain⟨m,hn,_⟩:=I5.loc
   have IX:Inv X pins σ H4 s5:=I3.call' (ch:=fp) I5.os I5.base I5.hok I5.bare fun b hb=>⟨(f3 b hb).2.2.2.1,(f3 b hb).2.1,(f3 b hb).2.2.2.2.1,(f3 b hb).2.2.2.2.2⟩
   exact hend D h3.objs.size H4 s5 m IX hn I5.free (Ne.symm (gK I3.lt)) (I3.nofs (fS _)) I3.sz (fun x c e=>gK (cellC x c e)) (fun p hp=>gK (gn (I3.pin p hp).1)) qn
  ·have hi:i < x.cps.toList.length:=go
   refine dJ (y_ (tg:= .Name nm pn) hT I4 (ff fr4 it (by rw[hfp];simp)) st4 hi) fun r s5 z5=>?_
   obtain⟨hr,h5⟩:=z5
   subst hr
   refine dJ h5 fun _ s6 z6=>?_
   obtain⟨t6,I6,st6⟩:=z6
   have I6':=I6.pinned (ff fr4) (T.obj _ _ st6)
   have back:∀{σ7:St} {H7:Hp} {s7:Shared},Inv (X.comp sc cl N h3.objs.size {s2 with heap:=h3} (upd H2 D (.lst [])) fp) ([]++jX fp s6.heap) σ7 H7 s7→
     Inv (X.comp sc cl N h3.objs.size {s2 with heap:=h3} (upd H2 D (.lst [])) fp) [] σ7 H7 s7∧s7.heap.IsStrIter it T0 x tk (i+1)∧∀b∈fp,H7 b=none:=fun {σ7 H7 s7} I7=>
    ⟨I7.unpinned,T.keep _ _ _ st6 fun b hb o e=>(I7.pin (b,o) (lD _ (lD _ (fe hb e)))).1,fun b hb=>by
     obtain⟨o,e,d⟩:=T.obj _ _ st6 b hb
     exact(I7.pin (b,o) (lD _ (lD _ (fe hb e)))).2.1⟩
   have q7:=step (.str ⟨#[x.cps.toList[i]]⟩) H4 ⟨rfl,_,wc hi,rfl⟩
   refine dJ (wpAny_assign_Name (mH (v:=.str ⟨#[x.cps.toList[i]]⟩) I6' hNd hN0 hlk ⟨_,rfl⟩)) fun _ s7 z7=>?_
   obtain⟨I7,t7,m7,hn7,hm7⟩:=z7
   have n7:n≤s7.toks:=by rw[t7,t6];omega
   have l7:s4.toks < s7.toks:=by rw[t7,t6];omega
   refine wpAny_tests_nil ?_
   rw[if_pos rfl]
   refine lX n7 (he _ s7 _ H4 _ ⟨m7,_,s4.toks,hn7,hm7,n4,l7⟩ I7 q7) fun yv s9 n9' z9=>?_
   obtain⟨y,H9,I9,r9,ys,hl,hz,n9⟩:=z9
   obtain⟨m',hm,w9⟩:=hN _ _ n9
   refine lX n9' (lJ _ s9 _ H9 (.ref D) [y] (.ref D) [yv] (fun v H'=>v=.non∧H'=upd H9 D (.lst (ys++[y]))) I9 rfl (.cons r9 .nil) ⟨D,ys,y,rfl,rfl,hl,hz,rfl,rfl⟩) fun _ sA nA zA=>?_
   obtain⟨_,HA,IA,_,_,eA⟩:=zA
   subst eA
   obtain⟨J1,J2,J3⟩:=back IA
   exact⟨m',hm,nA,i+1,_,_,J1,J2,J3,w9⟩
 rw[K.rel]
 exact codeAny_compStart_list (qc _ rfl) (T.self _ 0 _ _ _ (T.keep _ _ _ st2 (fun b hb o e=>old b o (old3 b o e))) (qc _ rfl))
end
end L2
namespace L2
open PySem PySem.Spec PyProof.Rows
section
variable {X:Cx} {P:Shared→Prop} {es:List Expr} {e:Expr} {t:TA} {te:TE}
def Ff(X:Cx)(P:Shared→Prop)(es:List Expr)(t:TA):Prop:=∀(pos:Pos) (pins:List (Addr×Obj)) (s:Shared) (σ:St) (H:Hp) (Q:List V→Hp→Prop),P s→Inv X pins σ H s→t σ H Q→wpAny (model X.prog X.w) X.A (spliced (backTo pos (starEach es X.env))) (AP X pins σ Q) X.xe s
theorem q9 {M:Model} {A:Around} {E:Value→Shared→Prop} {pins:List (Addr×Obj)} {s:Shared} {σ:St} {H:Hp} {i:Nat} {x:Str} {v:V} {pos:Pos} (I:Inv X pins σ H s) (e:σ[i]? =some (some v)) (hN:X.N[i]? =some x) (hv:zS X.env.scope x) (hd:(x == ("__debug__":Str))=false) (hcd:(x == ("__classdict__":Str))=false):
  wpAny M A (eval (.Name x pos) X.env) (fun u s'=>s'=s∧RelV v u∧∀m,X.env.scope.names.lookup x=some .local→s.heap.Ns X.env.locals m→m x=some u) E s:=by
 obtain⟨m,hn,hl⟩:=I.loc
 obtain⟨u,r,where_⟩:=hl i x v hN e hv
 cases where_ with
 |inl z=>exact wpAny_Name (wpAny_loadName_local I.ok.kind z.1 hn z.2 ⟨rfl,r,fun m' _ hn'=>(hn'.agree hn x).trans z.2⟩) hd
 |inr z=>
  obtain⟨hk,c,hc,hcell⟩:=z
  have no:X.env.scope.names.lookup x≠some .local:=fun l=>by
   have l':X.env.kindOf x=some .local:=l
   rcases hk with q |q <;> rw[q]at l' <;> cases l'
  cases hk with
  |inl hk=>exact wpAny_Name (wpAny_loadName_cell I.ok.kind hk hc hcell ⟨rfl,r,fun _ l=>absurd l no⟩) hd
  |inr hk=>exact wpAny_Name (wpAny_loadName_free I.ok.kind hk hc hcell ⟨rfl,r,fun _ l=>absurd l no⟩ hcd) hd
theorem Bd {i:Nat} {x:Str} {p:Pos} (h:Ff X P es t) (hN:X.N[i]? =some x) (hv:zS X.env.scope x) (hd:(x == ("__debug__":Str))=false) (hcd:(x == ("__classdict__":Str))=false) (hs:starEach (.Name x p::es) X.env=(false,eval (.Name x p) X.env)::starEach es X.env):Ff X P (.Name x p::es) (kD (xJ i) t):=by
 intro pos pins s σ H Q hP I z
 obtain⟨v,e,z⟩:=z
 rw[hs]
 refine Calls.spliced_cons (dJ (q9 I e hN hv hd hcd) fun u s1 w=>?_)
 obtain⟨rfl,r,_⟩:=w
 exact dJ (h pos pins s1 σ H _ hP I z) fun us s2 w=>let ⟨xs,H2,I2,r2,q2⟩:=w;⟨v::xs,H2,I2,.cons r r2,q2⟩
theorem Dr(h:EQ X P e te)(hs:starEach [e] X.env=[(false,eval e X.env)]):Ff X P [e] (kD te xU):=by
 intro pos pins s σ H Q hP I z
 rw[hs]
 refine Calls.spliced_cons (dJ (h pins s σ H _ hP I z) fun u s1 w=>?_)
 obtain⟨v,H1,I1,r,q⟩:=w
 exact Calls.spliced_nil ⟨[v],H1,I1,.cons r .nil,q⟩
theorem Ds{k:Nat}{f:Str}{ps:List Str}{sp:Sp}{p pos:Pos}(D:Own X.prog X.w X.K X.mg X.base k f ps sp)(hr:Room k X.A)(hg:Gl X f)(ha:Ff X P (e::es) t)
  (hdb:(f == ("__debug__":Str))=false) (he:starEach (e::es) X.env=(false,eval e X.env)::starEach es X.env) (hpl:(backTo pos (starEach es X.env)).any (·.1)=false):EQ X P (.Call (.Name f p) (e::es) [] pos) (oQ sp [] E0 t):=by
 obtain⟨a,fd,F,b,m,kp⟩:=D.ex
 intro pins s σ H Q hP I z
 refine wpAny_Call_Name_kw (qd I hg m ?_ hdb)
 refine PySem.W.callWith_K (h₀:=X.base) I.ok.mod.kin kp (dJ (ha pos pins s σ H _ hP I z) fun us s1 w=>?_) he hpl
 obtain⟨vs,H1,I1,r,q⟩:=w
 exact⟨I1.kIn,xW F hr b .nil BS I1 r q⟩
def Be(ib ic:Nat):TE:=fun σ H Q=>∃x y,σ[ib]? =some (some (.str x))∧σ[ic]? =some (some (.str y))∧(y == ("":Str))=false∧x.length≤1000∧Q (.str (Txt.replace x y "")) H
theorem Dt {n ib ic:Nat} {b c:Str} {pb pc pk apos cpos:Pos} {j:Nat} (hn:1≤n) (nb:X.N[ib]? =some b) (nc:X.N[ic]? =some c) (vb:zS X.env.scope b) (lc:X.env.scope.names.lookup c=some .local) (db:(b == ("__debug__":Str))=false) (dc:(c == ("__debug__":Str))=false) (kb:(b == ("__classdict__":Str))=false) (kc:(c == ("__classdict__":Str))=false)
  (hbase:attributeBase (.Name b pb) "replace" X.env (eval (.Name b pb) X.env)=eval (.Name b pb) X.env)
  (hfew:((backTo cpos (starEach [.Name c pc,.Constant (.str "") j pk] X.env)).all (fun x=> !x.1)&&(backToKw cpos (keywordEach [] X.env)).all (fun x=>x.1.isSome)
   &&decide (([.Name c pc,.Constant (.str "") j pk]:List Expr).length+([]:List Keyword).length+(if ([]:List Keyword).isEmpty then 0 else 1) < 30))=true) (hline:(apos.endLine == cpos.line)=true)
  (hs:starEach [.Name c pc,.Constant (.str "") j pk] X.env=[(false,eval (.Name c pc) X.env),(false,eval (.Constant (.str "") j pk) X.env)]):
  EQ X (Dp n c X.env.locals) (.Call (.Attribute (.Name b pb) "replace" apos) [.Name c pc,.Constant (.str "") j pk] [] cpos) (Be ib ic):=by
 intro pins s σ H Q hP I z
 obtain⟨x,y,eb,ec,hy,hx,q⟩:=z
 obtain⟨m,y',tc,hns,hm,t1,t2⟩:=hP
 refine wpAny_Call_method_late hbase hfew hline rfl (dJ (q9 I eb nb vb db kb) fun v s1 w=>?_)
 obtain⟨rfl,⟨tb,rfl⟩,_⟩:=w
 refine⟨"str","str.replace",PySem.F.plainAttrs_str,PySem.F.slot_str_replace,PySem.F.type_str_replace,typeIs_str _ _ _,fun _ e=>(nomatch e),?_⟩
 rw[hs]
 refine Calls.callWith_builtin rfl (Calls.evalArgs_plain ?_)
 refine Calls.spliced_cons (dJ (q9 I ec nc (.inl lc) dc kc) fun u s2 w=>?_)
 obtain⟨rfl,⟨tu,rfl⟩,ex⟩:=w
 have eu:=Option.some.inj ((ex m lc hns).symm.trans hm)
 cases eu
 refine Calls.spliced_cons (Calls.Constant_str (k:=j) (pos:=pk) (Calls.spliced_nil ?_))
 refine SC.replace (Nat.ne_of_gt (lE hn t1)) (Nat.ne_of_gt (vm (Nat.zero_le tc) t2)) (gK t2) hy ?_ fun t' k=>?_
 ·show x.length+(x.length+1)*0≤_
  omega
 ·exact⟨.str (Txt.replace x y ""),H,I.tok _,⟨_,rfl⟩,q⟩
end
end L2
namespace PL
open PySem PySem.Spec PyProof.Rows L2 Nh
def nZ(f:bL):lB:=fun E=>(f E).bind fun a=>(frz a.2 a.1).bind fun b=>match b.1 with
 |.str x=>some (gv x,b.2)
 |_=>none
def q_(i ib ic:Nat)(c:List PyData→Option Sl):bL:=fun E=>match E[i]?,E[ib]?,E[ic]? with
 |some (.sh d),some (.sh (.str x)),some (.sh (.str y))=>if (y == ("":Str))=false∧x.length≤1000 then (c [d,.str (Txt.replace x y "")]).map fun r=>(r,E)else none
 |_,_,_=>none
section
variable {K:Frag} {X:Cx} {σ:L2.St} {H:Hp} {Q:VK}
theorem Du{i ib ic:Nat}{c:List PyData→Option Sl}(z:rd K false (q_ i ib ic c) σ H Q):oQ (du K c) [] E0 (kD (xJ i) (kD (Be ib ic) xU)) σ H Q:=by
 obtain⟨B,E,xs,Xs,res,E',⟨F,A,fr⟩,_,e,q⟩:=z
 unfold q_ at e
 split at e
 case h_2=>cases e
 rename_i d x y e1 e2 e3
 split at e
 case isFalse=>cases e
 rename_i hc
 obtain⟨r,e4,e⟩:=Zae.mp e
 cases e
 obtain⟨o1,A1,s1,h1⟩:=fr.var e1
 obtain⟨v1,rfl,r1,_⟩:=h1.val fr.fh rfl
 obtain⟨o2,A2,s2,h2⟩:=fr.var e2
 obtain⟨v2,rfl,r2,_⟩:=h2.val fr.fh rfl
 obtain⟨o3,A3,s3,h3⟩:=fr.var e3
 obtain⟨v3,rfl,r3,_⟩:=h3.val fr.fh rfl
 cases r2
 cases r3
 refine⟨v1,s1,x,y,s2,s3,hc.1,hc.2,?_⟩
 exact⟨_,_,e4,.cons r1 (.cons (.str _) .nil),fun v H' g q'=>q v H' (fr.told g q')⟩
theorem Dv{m:Bool}{f:bL}{R:It→Hp→Prop}(z:ri K m (nZ f) σ H R):uG (rd K m f) σ H R:=by
 obtain⟨B,E,xs,Xs,ds,E',fr,cl,e,q⟩:=z
 obtain⟨⟨s,E1⟩,e1,e⟩:=Za.mp e
 obtain⟨⟨d,E2⟩,e2,e⟩:=Za.mp e
 simp only at e
 split at e
 ·cases e
  refine⟨B,E,xs,Xs,s,E1,fr,cl,e1,fun v H1 fr1=>?_⟩
  obtain⟨F,A,fr1⟩:=fr1
  obtain⟨F2,A2,fr2⟩:=fr1.frz0 e2
  obtain⟨v',A1,ev,rfl,w,ew,r⟩:=fr2.ext (k:=0) rfl
  cases ev
  cases ew
  obtain⟨A3,fr3⟩:=fr2.pop
  cases r
  exact⟨_,rfl,q F2 _ _ fr2.bf ⟨F2,A3,fr3.raise⟩ sy⟩
 ·cases e
theorem Bf{i:Nat}{v:V}{Q:L2.St→Hp→Prop}(z:rg K (aD i) v σ H Q):ni i v σ H Q:=by
 obtain⟨B,E,xs,Xs,d,E',⟨F,A,fr⟩,cl,e,q⟩:=z
 unfold aD at e
 split at e
 ·rename_i hi
  cases e
  obtain⟨A',fr'⟩:=fr.store rfl cl hi
  exact q _ _ ⟨F,A',fr'⟩
 ·cases e
theorem xo{tl:TE}{R R':It→Hp→Prop}(ht:∀Q Q':VK,(∀v H,Q v H→Q' v H)→tl σ H Q→tl σ H Q')(hR:∀J H,R J H→R' J H)(z:uG tl σ H R):uG tl σ H R':=ht _ _ (fun v H1 w=>let ⟨x,e,r⟩:=w;⟨x,e,hR _ _ r⟩) z
theorem Bg{m:Bool}{f:bL}(Q Q':VK)(h:∀v H,Q v H→Q' v H)(z:rd K m f σ H Q):rd K m f σ H Q':=let ⟨B,E,xs,Xs,r,E',fr,cl,e,q⟩:=z;⟨B,E,xs,Xs,r,E',fr,cl,e,fun v H' w=>h v H' (q v H' w)⟩
theorem zb{m:Bool}{fi:bL}{js:List (Option Nat)}{i ib ic:Nat}{c:List PyData→Option Sl}(z:rd K m (aP js (nZ fi) (aD 0) aL (q_ i ib ic c)) σ H Q):mq js (uG (rd K m fi)) (ni 0) Au (oQ (du K c) [] E0 (kD (xJ i) (kD (Be ib ic) xU))) σ H Q:=by
 have a:mq js (ri K m (nZ fi)) (rg K (aD 0)) Au (rd K false (q_ i ib ic c)) σ H Q:=mZ (m2:=false) (fun σ H Q z=>by
  obtain⟨B,E,xs,Xs,b,E',fr,cl,e,q⟩:=z
  cases e
  exact q _ fr) z
 refine xo (Bg) (fun J H1 w l hl=>?_) (Dv a)
 obtain⟨W,w0,turn⟩:=w l hl
 refine⟨W,w0,fun i m σ' H' wi=>?_⟩
 rcases turn i m σ' H' wi with st |⟨go,N,hN,step⟩
 ·exact .inl st
 ·exact .inr ⟨go,N,hN,fun x H2 y=>Du (Bf (step x H2 y))⟩
theorem zc{n:Nat}{m:Bool}{fi:bL}{js:List (Option Nat)}{i ib ic:Nat}{c:List PyData→Option Sl}{elt iter:Expr}{scope sc:Scope}{cl:List (Str×Addr)}{N:List Str}{nm:Str}{pn pos:Pos}(C:CompOk X scope sc cl N js)(hc:X.calm=true)(hN0:N[0]? =some nm)(hNd:N.Nodup)(hlk:sc.names.lookup nm=some .local)(hl:EX X iter m fi)
  (hee:∀C s₀ H₀ fp,EQ (X.comp sc cl N C s₀ H₀ fp) (Dp n nm C) elt (oQ (du X.K c) [] E0 (kD (xJ i) (kD (Be ib ic) xU)))) (hs:∀x,foldedSetIterable iter X.env x=pure x):
  FU X n (.ListComp elt [⟨.Name nm pn,iter,[],0⟩] scope pos) (rd X.K m (aP js (nZ fi) (aD 0) aL (q_ i ib ic c))):=by
 intro pins s σ H Q hn I z
 rw[eval_ListComp]
 refine za (use:=none) C hc n hN0 hNd hlk hl hee hs pins s σ H Q hn I (zb z) fun D C H4 s5 m IX hn fC nL _ sz nc np qn=>?_
 exact⟨m,hn,fun h' hs'=>⟨.ref D,H4,IX.turned (t':=s5.toks) (it:=C) (fun b o hb e=>(hs'.2 b hb).trans e) fC nL (.inr sz) nc np,rfl,qn⟩⟩
end
end PL
namespace PL
open PySem PySem.Spec PyProof.Rows L2 Nh
def Gp(X:Cx)(n:Nat)(e:Expr)(m:Bool)(f:bL):Prop:=FU X n e (rd X.K m f)
def ER(X:Cx)(n:Nat)(e:Expr)(m:Bool)(f:iu):Prop:=DQ X n e (rt X.K m f)
def Fg(X:Cx)(n:Nat)(e:Expr)(m:Bool)(f:iu):Prop:=PWT X n e (rt X.K m f)
def FW(X:Cx)(n:Nat)(s:Stmt)(g:dN):Prop:=B_ X n s (rs X.K g)
def zd(X:Cx)(n:Nat)(s:List Stmt)(g:dN):Prop:=oE X n s (rs X.K g)
section
variable {X:Cx} {n:Nat} {a b c:Expr} {aU:List Expr} {m m1 m2:Bool} {t u:iu} {pos:Pos}
theorem Bh{e:Expr}{t t':TT}(h:PWT X n e t)(k:∀σ H Q,t' σ H Q→t σ H Q):PWT X n e t':=fun whole pins s σ H Q hn I q=>h whole pins s σ H Q hn I (k σ H Q q)
theorem Bi{st:Stmt}{t t':TS}(h:B_ X n st t)(k:∀D σ H,t' D σ H→t D σ H):B_ X n st t':=fun pins s σ H D hn I q=>h pins s σ H D hn I (k D σ H q)
theorem ze{st:List Stmt}{t t':TS}(h:oE X n st t)(k:∀D σ H,t' D σ H→t D σ H):oE X n st t':=fun pins s σ H D hn I q=>h pins s σ H D hn I (k D σ H q)
theorem Dw(ha:ER X n a m1 t)(hb:Fg X n (.BoolOp .Or (b::aU) pos) m2 u):Fg X n (.BoolOp .Or (a::b::aU) pos) (m1||m2) (iJ t u):=by
 refine Bh (Do ha hb) fun σ H Q z=>?_
 obtain⟨B,E,xs,Xs,res,E',fr,cl,e,q⟩:=z
 obtain⟨⟨b1,E1⟩,e1,e⟩:=Za.mp e
 refine⟨B,E,xs,Xs,b1,E1,fr,fun z=>cl (by simp[z]),e1,fun H1 fr1=>?_⟩
 cases b1 with
 |true=>cases e;exact(if_pos rfl).mpr (q _ fr1)
 |false=>exact(if_neg (by decide)).mpr ⟨B,E1,xs,Xs,res,E',fr1,fun z=>cl (by simp[z]),e,q⟩
theorem Bj(ha:ER X n a m1 t):Fg X n (.BoolOp .Or [a] pos) m1 t:=Bb ha
theorem ES(h:Fg X n a m1 t):ER X n a m1 t:=PWT.pt h
end
section
variable {X:Cx} {n:Nat} {c:Expr} {a b:List Stmt} {st:Stmt} {aU:List Stmt} {m:Bool} {t:iu} {g h:dN} {pos:Pos}
theorem zf(h1:FW X n st g):zd X n [st] g:=tI h1
theorem cW(h1:FW X n st g)(h2:zd X n aU h):zd X n (st::aU) (aA g h):=ze (xn h1 h2) fun D σ H z=>uD z
end
section
variable {X:Cx} {n:Nat} {e:Expr} {m:Bool} {f:bL} {p pos:Pos}
theorem Bk (hc:X.calm=true) (hg:Gl X "any") (hm:X.mg "any"=none) (ha:Gp X n e m f) (he:starEach [e] X.env=[(false,eval e X.env)]) (hpl:(backTo pos (starEach [] X.env)).any (·.1)=false)
  (hw:∀whole,isTrue (.Call (.Name "any" p) [e] [] pos) X.env whole=(do let v ←whole;standAt (Expr.Call (.Name "any" p) [e] [] pos).pos;holding [v] (truthy v))):ER X n (.Call (.Name "any" p) [e] [] pos) m (cN (bO qK (ad false f ah))):=by
 intro pins s σ H Q hn I z
 have z1:rd X.K m (bO qK (ad false f ah)) σ H (fun v H'=>∃k,v=.bl k∧Q k H'):=uv z
 have z2:=uC (r:=j6 X.K fun bs=>bs.any id) nO z1
 have z3:rd X.K m f σ H (fun v H'=>j6 X.K (fun bs=>bs.any id) [v] H' fun v H'=>∃k,v=.bl k∧Q k H'):=by
  obtain⟨B,E,xs,Xs,res,E',fr,cl,e,q⟩:=z2
  obtain⟨⟨s1,E1⟩,e1,e⟩:=Za.mp e
  cases e
  exact⟨B,E,xs,Xs,s1,E1,fr,cl,e1,fun v H1 fr1=>q [v] H1 rfl fr1⟩
 refine isTrue_plain ?_ (hw _)
 refine wpAny_Call_Name_kw (jW I hg hm PyProof.Rows.boot_any ?_ (by decide) (by decide))
 refine PyProof.Rows.callWith_builtin1 ?_ he hpl
 rw[he]
 refine Calls.spliced_cons (dJ (ha pins s σ H _ hn I z3) fun u s1 w=>?_)
 obtain⟨v,H1,I1,r1,q1⟩:=w
 refine Calls.spliced_nil ?_
 refine dJ (pB hc pins s1 σ H1 [v] [u] _ I1 (.cons r1 .nil) q1) fun u2 s2 w=>?_
 obtain⟨x,H2,I2,r2,k,rfl,q2⟩:=w
 exact xS pins s2 σ H2 (.bl k) u2 Q I2 r2 ⟨k,rfl,q2⟩
end
section
variable {K:Frag} {X:Cx}
theorem Bl{i:Nat}{m:Bool}{f:bL}{D:Ends}{σ:L2.St}{H:Hp}(z:rs K (au i f) D σ H):Cv (rd K m f) (ni i) D σ H:=by
 obtain⟨B,E,xs,Xs,E',fl,fr,cl,e,q⟩:=z
 obtain⟨⟨s,E1⟩,e1,e⟩:=Za.mp e
 obtain⟨⟨s',E2⟩,e2,e⟩:=Za.mp e
 refine⟨B,E,xs,Xs,s,E1,fr,fun _=>Calm.nil cl,e1,fun v H1 ⟨F,A,fr1⟩=>?_⟩
 obtain⟨c1,F2,A2,fr2⟩:=fr1.settle cl e2
 simp only at e
 split at e
 ·rename_i hi
  cases e
  obtain⟨A3,fr3⟩:=fr2.store c1 (Still.nil cl) hi
  exact q _ _ ⟨F2,A3,fr3⟩
 ·cases e
theorem Bm{i:Nat}{x:Str}{e:Expr}{m:Bool}{f:bL}{aU:List Stmt}{h:dN}{pos pos':Pos}(hN:X.N.Nodup)(hi:X.N[i]? =some x)(hk:X.env.scope.names.lookup x=some .local)(he:EX X e m f)(h2:zd X 1 aU h)(hs:swapsWith e (some (.Name x pos')) pos.line X.env=pure false):
  wC X (.Assign [.Name x pos'] e pos::aU) (aA (au i f) h):=by
 intro pins s σ H D I z
 have z2:=Bl (m:=m) (uD z)
 refine wpAny_execs_cons (wpAny_Assign_Name (dJ (he pins s σ H _ I z2) fun v s1 w=>?_) hs)
 obtain⟨y,H1,I1,r1,q1⟩:=w
 refine dJ (mH I1 hN hi hk r1) fun _ s2 w=>?_
 exact h2 pins s2 _ H1 D (by rw[w.2.1];omega) w.1 q1
end
end PL
namespace PL
open PySem PySem.Spec L2 Nh
def k_(i t:Nat)(c:iu)(g:dN):Nat→Nat→List Sl→Option (List Sl×Fl)
 | 0,_,_=>none
 |f+1,k,E=>match E[i]? with
  |some (.ow ds)=>match ds[k]? with
   |none=>some (E,.nx)
   |some d=>if t < E.length∧t≠i then (c (E.set t (.sh d))).bind fun b=>if b.1=true then (g b.2).bind fun r=>match r.2 with
     |.rt _=>some r
     |_=>none
    else k_ i t c g f (k+1) b.2
    else none
  |_=>none
def pT(i t:Nat)(c:iu)(g:dN):dN:=fun E=>match E[i]? with
 |some (.ow ds)=>k_ i t c g (ds.length+1) 0 E
 |_=>none
theorem zg {X:Cx} {n:Nat} (i t:Nat) {x y:Str} {c:Expr} {body:List Stmt} {m:Bool} {ct:iu} {g:dN} {pos p p2 p3:Pos} (hp:PassesOwn (model X.prog X.w) X.A X.env X.xe) (hc:X.calm=true) (hN:X.N.Nodup) (ht:X.N[t]? =some x) (hx:BM X.env.scope x) (hf:X.fn x=true∨X.env.scope.names.lookup x=some .local) (hi:X.N[i]? =some y) (hv:zS X.env.scope y) (hd:(y == ("__debug__":Str))=false) (hcd:(y == ("__classdict__":Str))=false) (hcnd:ER X n c m ct) (hb:zd X n body g)
  (hs:∀x,foldedSetIterable (.Name y p2) X.env x=pure x:=by intro _;rfl):FW X n (.For (.Name x p) (.Name y p2) [.If c body [] p3] [] pos) (pT i t ct g):=
 Bi (Bc hp hc (qf (nh hi hv hd hcd)) (qe hN ht hx hf) (tI (Dm hcnd hb (PSs.tk vp))) hs) fun D σ H z=>by
 obtain⟨B,E,xs,Xs,E',fl,⟨F,A,fr1⟩,cl,e,q⟩:=z
 subst cl
 unfold pT at e
 split at e
 ·rename_i ds ei
  obtain⟨l,vs,eo,hl,r,_⟩:=fr1.mut ei (by simp)
  refine⟨.ref l,eo,l,rfl,⟨vs,.inl (.of hl)⟩,fun k mm σ' H'=>∃Ek,k_ i t ct g mm k Ek=some (E',fl)∧Frm X.K B σ' H' Ek xs []∧σ'[i]? =some (some (.ref l)),⟨ds.length+1,E,e,⟨F,A,fr1⟩,eo⟩,?_⟩
  rintro k mm σ' H' ⟨Ek,ek,⟨F2,A2,fr2⟩,eo2⟩
  cases mm with
  |zero=>cases ek
  |succ mm=>
   unfold k_ at ek
   split at ek
   ·rename_i ds2 ei2
    obtain⟨l2,vs2,eo3,hl2,r2,_⟩:=fr2.mut ei2 (by simp)
    rw[eo2]at eo3
    cases eo3
    have sq:SqL X.K H' l vs2:=.inl (.of hl2)
    split at ek
    ·rename_i en
     cases ek
     exact .inl ⟨⟨vs2,sq,by rw[r2.len];exact List.getElem?_eq_none_iff.mp en⟩,q _ _ ⟨F2,A2,fr2⟩⟩
    ·rename_i d ed
     split at ek
     ·rename_i hti
      obtain⟨⟨b,Eb⟩,eb,ek⟩:=Za.mp ek
      obtain⟨v,ev,rv⟩:=r2.get ed
      refine .inr ⟨⟨vs2,v,sq,ev⟩,fun σ3 H3=>∃Ej,k_ i t ct g mm (k+1) Ej=some (E',fl)∧Frm X.K B σ3 H3 Ej xs []∧σ3[i]? =some (some (.ref l)),fun σ3 H3 w=>⟨mm,Nat.lt_succ_self _,w⟩,fun y H2 ⟨e2,yy⟩=>?_⟩
      subst e2
      have ey:=yy vs2 sq
      rw[ev]at ey
      cases ey
      have fr3:=fr2.push (s:=.sh d) ⟨rfl,_,rfl,rv⟩
      obtain⟨A4,fr4⟩:=fr3.store rfl (by simp) hti.1
      have so:(σ'.set t (some v))[i]? =some (some (.ref l)):=by rw[List.getElem?_set_ne hti.2];exact eo2
      refine⟨B,Ek.set t (.sh d),xs,[],b,Eb,⟨F2,A4,fr4⟩,fun _=>Calm.nil rfl,eb,fun H4 fr5=>?_⟩
      cases b with
      |true=>
       rw[if_pos rfl]
       simp only[if_true]at ek
       obtain⟨⟨E6,f6⟩,e6,ek⟩:=Za.mp ek
       cases f6 with
       |rt r=>
        cases ek
        exact⟨B,Eb,xs,[],E',.rt r,fr5,rfl,e6,q⟩
       |nx=>cases ek
       |bk=>cases ek
       |ct=>cases ek
      |false=>
       rw[if_neg (by decide)]
       exact⟨Eb,ek,fr5,so⟩
     ·cases ek
   ·cases ek
 ·cases e
theorem Bo{i t:Nat}{c:iu}{g:dN}{E:List Sl}{ds:List PyData}(h:E[i]? =some (.ow ds))(ti:t≠i)(tl:t < E.length)(hc:∀d∈ds,c (E.set t (.sh d))=some (false,E.set t (.sh d))):∃x,pT i t c g E=some (E.set t x,.nx):=by
 have key:∀(f k:Nat) (x:Sl),ds.length≤f+k→∃y,k_ i t c g (f+1) k (E.set t x)=some (E.set t y,.nx):=by
  intro f
  induction f with
  |zero=>
   intro k x hk
   refine⟨x,?_⟩
   have e1:(E.set t x)[i]? =some (.ow ds):=by rw[List.getElem?_set_ne ti];exact h
   have e2:ds[k]? =none:=List.getElem?_eq_none_iff.mpr (by omega)
   simp only[k_,e1,e2]
  |succ f ih=>
   intro k x hk
   have e1:(E.set t x)[i]? =some (.ow ds):=by rw[List.getElem?_set_ne ti];exact h
   cases ed:ds[k]? with
   |none=>
    refine⟨x,?_⟩
    rw[k_]
    simp only[e1,ed]
   |some d=>
    obtain⟨y,ey⟩:=ih (k+1) (.sh d) (by omega)
    refine⟨y,?_⟩
    have l:t < (E.set t x).length∧t≠i:=⟨by simpa using tl,ti⟩
    rw[k_]
    simp only[e1,ed,l,and_self,ne_eq,not_false_iff,List.set_set,hc d (List.mem_of_getElem? ed),Z0,ey,bB]
 obtain⟨x0,e0⟩:∃x0,E[t]? =some x0:=⟨E[t],wc tl⟩
 obtain⟨y,ey⟩:=key ds.length 0 x0 (by omega)
 have es:E.set t x0=E:=by
  refine List.ext_getElem? fun k=>?_
  by_cases hk:t=k
  ·subst hk;rw[List.getElem?_set_self tl,e0]
  ·rw[List.getElem?_set_ne hk]
 rw[es]at ey
 refine⟨y,?_⟩
 unfold pT
 simp only[h]
 exact ey
end PL
namespace Nhk36
open PySem L2 Nh PL
def jE:dN:=(aM (nD (iI (nI .str) (aa 0)) (nD (ae fg false (bO ef (ad false (aa 0) ah)) (pC (.int 1))) (gN (fB .le) (fB .le) false false (pC (.str "a")) (aa 0) (pC (.str "z"))))))
def fM:List PyData→Option Sl:=eM 1 1 jE
def bn:gB:=(g_ 2 (eG (aD 2) (eG (aD 3) g9)))
def bq:dN:=(aA (au 4 (aa 3))
 (aA (aZ (eR (d_ (aa 1)) (cN (ae fg false (ae fU false (ae fU false (aa 1) (iI gr (pC (.int 1)))) (pC (.int 0))) (aa 2))))
 (au 4 (ae aG false (ae fU false (jL 1) (pC (.int 1))) (aa 3)))
 aO)
 (aZ (cN (ae kH false (aa 4) (pC (.int 0))))
 (cg (bb 1 (ee (aH (aa 2) (aH (aa 4) bu)))))
 aO)))
def gD:dN:=(aA (au 1 (cG bu))
 (aA (eS (aW (aa 0)) bn
 bq)
 (aM (aa 1))))
def dW:List PyData→Option Sl:=eM 1 5 gD
def jF:dN:=(aM (ae fg false (bO ef (ad false (ag dW (ad false (aa 0) ah)) ah)) (pC (.int 0))))
def fN:List PyData→Option Sl:=eM 1 1 jF
def gh:gB:=(aD 1)
def gi:dN:=(aZ (dv (d_ (ag fM (ad false (aa 1) ah))))
 uJ
 aO)
def la:dN:=(aA (aZ (dv (d_ (iI (nI .str) (aa 0))))
 uJ
 aO)
 (aA (eS (aW (aa 0)) gh
 gi)
 (aM (kM "" (de (aa 0))))))
def cK:List PyData→Option Sl:=eM 1 2 la
def fW:gB:=(g_ 2 (eG (aD 0) (eG (aD 1) g9)))
def fX:bL:=(aa 0)
def iO:dN:=(aM (kM "" (de (aP [none,none] (aW (aa 0)) fW aL fX))))
def dO:List PyData→Option Sl:=eM 1 1 iO
def gE:gB:=(aD 0)
def gG:bL:=(aa 0)
def eP:iu:=(cN (ae (wL true) false (ae fU false (aa 0) (pC (.int 0))) (aa 1)))
def jG:dN:=(aA (au 2 (ag cK (ad false (aa 1) ah)))
 (aM (aP [none,some 2] (aW (aa 0)) gE eP gG)))
def fO:List PyData→Option Sl:=eM 2 3 jG
def e_:dN:=(aM (ag fN (ad false (ag fO (ad false (aa 0) (ad false (aa 1) ah))) ah)))
def bZ:List PyData→Option Sl:=eM 2 2 e_
def fD:gB:=(aD 3)
def fE:dN:=(aA (aZ (cN (ae (wL false) false (aa 3) (aa 0)))
 (au 1 (ae aG false (aa 1) (aa 2)))
 aO)
 (au 2 (ae gM false (aa 2) (pC (.int 2)))))
def jH:dN:=(aA (au 1 (pC (.int 0)))
 (aA (au 2 (pC (.int 1)))
 (aA (eS (aW (pC (.str "abcdefghijklmnopqrstuvwxyz"))) fD
 fE)
 (aM (aa 1)))))
def b_:List PyData→Option Sl:=eM 1 4 jH
def fb:dN:=(aM (qZ (aa 0)))
def bx:List PyData→Option Sl:=eM 1 1 fb
def bT:gB:=(aD 2)
def bA:dN:=(aZ (cN (ae fg false (ae uH false (aa 2) (aa 0)) (aa 2)))
 (aM (pC (.bool true)))
 aO)
def dw:dN:=(aA (eS (aW (aa 1)) bT
 bA)
 (aM (pC (.bool false))))
def aQ:List PyData→Option Sl:=eM 2 3 dw
def cX:gB:=(aD 2)
def cF:dN:=(aZ (cN (ae fg false (ae uH false (aa 2) (aa 0)) (pC (.int 0))))
 (aM (pC (.bool false)))
 aO)
def fF:dN:=(aA (eS (aW (aa 1)) cX
 cF)
 (aM (pC (.bool true))))
def cH:List PyData→Option Sl:=eM 2 3 fF
def dr:gB:=(aD 3)
def cI:dN:=(aA (au 4 (ag b_ (ad false (aa 3) ah)))
 (aZ (dv (d_ (ag aQ (ad false (aa 4) (ad false (aa 2) ah)))))
 (aA (cg (bb 2 (aa 4)))
 (cg (bb 1 (aa 3))))
 aO))
def gU:dN:=(aA (au 1 (cG bu))
 (aA (au 2 (cG bu))
 (aA (eS (aW (ag bx (ad false (aa 0) ah))) dr
 cI)
 (aM (aa 1)))))
def bJ:List PyData→Option Sl:=eM 1 5 gU
def fY:gB:=(aD 0)
def eU:bL:=(ae aG false (aa 0) (aa 1))
def dX:gB:=(aD 2)
def dY:dN:=(au 1 (ae aG false (aa 1) (aP [none,some 2] (aW (aa 1)) fY aL eU)))
def gV:dN:=(aA (au 1 (cG (aH (pC (.str "")) bu)))
 (aA (eS (aW (aa 0)) dX
 dY)
 (aM (aa 1))))
def bh:List PyData→Option Sl:=eM 1 3 gV
def gH:dN:=(aZ (cN (ae (eC (fB .gt)) false (bO ef (ad false (aa 0) ah)) (pC (.int 10))))
 uJ
 aO)
def bM:List PyData→Option Sl:=eM 1 1 gH
def fZ:dN:=(aM (ag cK (ad false (kM "" (aa 0)) ah)))
def ck:List PyData→Option Sl:=eM 1 1 fZ
def cY:gB:=(aD 0)
def cZ:bL:=(ag cK (ad false (aa 0) ah))
def gI:dN:=(aM (ag bJ (ad false (aP [none] (aW (aa 0)) cY aL cZ) ah)))
def bN:List PyData→Option Sl:=eM 1 1 gI
def cy:gB:=(aD 0)
def cA:bL:=(ag b_ (ad false (aa 0) ah))
def cB:gB:=(aD 0)
def cC:bL:=(aa 0)
def bP:iu:=(d_ (ag cH (ad false (ag b_ (ad false (aa 0) ah)) (ad false (aa 1) ah))))
def eH:dN:=(aA (au 1 (aP [none] (aW (ag bN (ad false (aa 0) ah))) cy aL cA))
 (aA (au 2 (ag ck (ad false (aa 0) ah)))
 (aA (cg (ag bM (ad false (aa 2) ah)))
 (aM (ag bJ (ad false (aP [none,some 1] (aW (ag bh (ad false (aa 2) ah))) cB bP cC) ah))))))
def aE:List PyData→Option Sl:=eM 1 3 eH
def dg:gB:=(aD 0)
def dh:bL:=(aa 0)
def cD:iu:=(d_ (ag bZ (ad false (aa 1) (ad false (aa 0) ah))))
def eI:dN:=(aA (au 1 (ag dO (ad false (aa 0) ah)))
 (aA (cg (ag bM (ad false (aa 1) ah)))
 (aM (ag bJ (ad false (aP [none,some 0] (aW (ag bh (ad false (aa 1) ah))) dg cD dh) ah)))))
def aN:List PyData→Option Sl:=eM 1 2 eI
def eJ:dN:=(aM (ag aE (ad false (ag aN (ad false (aa 0) ah)) ah)))
def bt:List PyData→Option Sl:=eM 1 1 eJ
def lg:dN:=(aA (aZ (cN (ae (eC (fB .lt)) false (aa 1) (bO ef (ad false (aa 0) ah))))
 (aM (ae fU false (aa 0) (aa 1)))
 aO)
 (aM (pC (.int 0))))
def aB:List PyData→Option Sl:=eM 2 2 lg
def iP:dN:=(aA (au 2 (ae bV false (ae aG false (ae aG false (ae aG false (ae bV false (aa 0) (pC (.int 2147483629))) (ae gM false (pC (.int 7919)) (aa 1))) (ae gM false (aa 1) (aa 1))) (pC (.int 11))) (pC (.int 2147483629))))
 (aA (au 2 (ae bV false (ae gM false (aa 2) (aa 2)) (pC (.int 2147483587))))
 (aM (ae ba false (ae bV false (ae aG false (ae gM false (aa 2) (pC (.int 48271))) (ae gM false (pC (.int 31)) (aa 1))) (pC (.int 2147483563))) (pC (.int 13))))))
def bE:List PyData→Option Sl:=eM 2 3 iP
def eK:gB:=(aD 0)
def dC:bL:=(ae fU false (aa 1) (ae bV false (ae aG false (aa 2) (ae gM false (aa 0) (aa 3))) (pC (.int 26))))
def hZ:dN:=(aA (au 2 (pC (.str "abcdefghijklmnopqrstuvwxyz")))
 (aA (au 3 (ae fU false (cG (yw [1,3,5,7,9,11,15,17,19,21,23,25])) (ae bV false (ae ba false (aa 0) (pC (.int 26))) (pC (.int 12)))))
 (aM (aP [none,some 2,some 0,some 3] (nJ (ad false (aa 1) ah)) eK aL dC))))
def cc:List PyData→Option Sl:=eM 2 4 hZ
def f7:gB:=(g_ 2 (eG (aD 0) (eG (aD 1) g9)))
def eW:bL:=(ee (aH (aa 0) (aH (ae i6 false (pC (.int 0)) (aa 1)) bu)))
def iQ:dN:=(aA (au 1 (aP [none,none] (aW (aa 0)) f7 aL eW))
 (aA (cg (kN 1))
 (aM (aa 1))))
def aI:List PyData→Option Sl:=eM 1 2 iQ
def ft:dN:=(aA (aZ (cN (ae fg false (ae bV false (aa 0) (pC (.int 9))) (pC (.int 8))))
 (aM (ae i6 false (ae bV false (ae ba false (aa 0) (pC (.int 9))) (ae gM false (pC (.int 2)) (ae jb false (pC (.int 10)) (pC (.int 30))))) (ae jb false (pC (.int 10)) (pC (.int 30)))))
 aO)
 (aM (ae aG false (ae i6 false (ae bV false (aa 0) (pC (.int 9))) (pC (.int 4))) (bO wN (ad false (ae (eC (fB .gt)) false (ae bV false (aa 0) (pC (.int 9))) (pC (.int 3))) ah)))))
def bG:List PyData→Option Sl:=eM 1 1 ft
def bi:gB:=(aD 5)
def bj:dN:=(aA (au 6 (ae fU false (aa 1) (ae bV false (aa 4) (bO ef (ad false (aa 1) ah)))))
 (aA (au 4 (ae ba false (aa 4) (bO ef (ad false (aa 1) ah))))
 (aA (au 7 (ae i6 false (ae bV false (aa 4) (pC (.int 7))) (pC (.int 3))))
 (aA (au 4 (ae ba false (aa 4) (pC (.int 7))))
 (aA (aZ (eR (cN (ae fg false (aa 7) (iI gr (pC (.int 3))))) (cN (ae fg false (ae bV false (aa 4) (pC (.int 2))) (pC (.int 1)))))
 (aA (au 7 (ae i6 false (ae bV false (ae ba false (aa 4) (pC (.int 2))) (ae gM false (pC (.int 2)) (ae jb false (pC (.int 10)) (pC (.int 12))))) (ae jb false (pC (.int 10)) (pC (.int 12)))))
 (au 4 (ae ba false (aa 4) (ae gM false (pC (.int 4)) (ae jb false (pC (.int 10)) (pC (.int 12)))))))
 (aZ (cN (ae fg false (aa 7) (iI gr (pC (.int 3)))))
 (au 4 (ae ba false (aa 4) (pC (.int 2))))
 aO))
 (cg (bb 3 (ee (aH (aa 6) (aH (aa 7) bu))))))))))
def fc:dN:=(aA (au 3 (cG bu))
 (aA (au 4 (ae ba false (aa 0) (ae aG false (aa 2) (pC (.int 1)))))
 (aA (eS (nJ (ad false (ae bV false (aa 0) (ae aG false (aa 2) (pC (.int 1)))) ah)) bi
 bj)
 (aM (aa 3)))))
def bK:List PyData→Option Sl:=eM 3 8 fc
def bQ:gB:=(aD 5)
def bR:dN:=(aA (au 6 (ag bE (ad false (ae aG false (ag aB (ad false (aa 0) (ad false (aa 5) ah))) (aa 5)) (ad false (aa 5) ah))))
 (aA (au 7 (cG (aH (ee (aH (ae fU false (aa 2) (ae bV false (ae ba false (aa 6) (pC (.int 7))) (bO ef (ad false (aa 2) ah)))) (aH (ag bG (ad false (ag bE (ad false (ag aB (ad false (aa 0) (ad false (aa 5) ah))) (ad false (ae aG false (pC (.int 50)) (aa 5)) ah))) ah)) bu))) bu)))
 (aA (au 8 (cG (aH (ee (aH (ae fU false (aa 2) (ae bV false (ae ba false (aa 6) (pC (.int 53))) (bO ef (ad false (aa 2) ah)))) (aH (ae aG false (pC (.int 1)) (ae bV false (ae ba false (aa 6) (pC (.int 401))) (pC (.int 3)))) bu))) bu)))
 (aA (au 9 (ae bV false (aa 6) (pC (.int 7))))
 (aA (aZ (cN (ae (eC (fB .gt)) false (bO ef (ad false (aa 4) ah)) (ae i6 false (ae ba false (aa 3) (pC (.int 2))) (pC (.int 4)))))
 (au 9 (pC (.int 0)))
 aO)
 (aZ (iJ (cN (ae fg false (aa 9) (pC (.int 1)))) (cN (ae fg false (aa 9) (pC (.int 2)))))
 (au 4 (ae aG false (ae aG false (ae aG false (aa 4) (aa 7)) (ag aI (ad false (aa 4) ah))) (ag aI (ad false (aa 7) ah))))
 (aZ (cN (ae fg false (aa 9) (pC (.int 3))))
 (au 4 (ae aG false (ae aG false (aa 7) (aa 4)) (ag aI (ad false (aa 7) ah))))
 (aZ (cN (ae fg false (aa 9) (pC (.int 4))))
 (aA (au 10 (ae bV false (ae ba false (aa 6) (pC (.int 3001))) (ae aG false (bO ef (ad false (aa 4) ah)) (pC (.int 1)))))
 (au 4 (ae aG false (ae aG false (ae aG false (ae aG false (j5 false (aa 4) gQ (gR (aa 10))) (aa 8)) (cG (aH (ee (aH (ae fU false (ae fU false (aa 7) (pC (.int 0))) (pC (.int 0))) (aH (pC (.int 0)) bu))) bu))) (ag aI (ad false (aa 8) ah))) (j5 false (aa 4) (gR (aa 10)) gQ))))
 (aZ (cN (ae fg false (aa 9) (pC (.int 5))))
 (au 4 (ae aG false (ae aG false (ae aG false (ae aG false (aa 4) (aa 8)) (aa 7)) (ag aI (ad false (aa 8) ah))) (ag aI (ad false (aa 7) ah))))
 (au 4 (ae aG false (aa 4) (aa 7))))))))))))
def gj:dN:=(aA (au 4 (cG bu))
 (aA (eS (lP (ad false (aa 1) (ad false (ae aG false (aa 1) (pC (.int 8))) ah))) bQ
 bR)
 (aM (j5 false (aa 4) gQ (gR (aa 3))))))
def di:List PyData→Option Sl:=eM 4 11 gj
def fP:dN:=(aA (au 4 (ag aB (ad false (aa 0) (ad false (aa 1) ah))))
 (aA (aZ (dv (cN (gN (fB .lt) (fB .lt) false false (iI gr (ae jb false (pC (.int 10)) (pC (.int 18)))) (aa 4) (ae jb false (pC (.int 10)) (pC (.int 18))))))
 (aM (ag bK (ad false (aa 4) (ad false (aa 2) (ad false (aa 3) ah)))))
 aO)
 (aM (ag di (ad false (aa 0) (ad false (ae aG false (aa 1) (pC (.int 1))) (ad false (aa 2) (ad false (aa 3) ah))))))))
def bU:List PyData→Option Sl:=eM 4 5 fP
def cO:gB:=(g_ 2 (eG (aD 2) (eG (aD 3) g9)))
def bF:dN:=(aA (aZ (eR (cN (ae kH false (aa 1) (cG bu))) (cN (ae fg false (ae fU false (ae fU false (aa 1) (iI gr (pC (.int 1)))) (pC (.int 0))) (aa 2))))
 (au 3 (ae aG true (aa 3) (ae fU false (jL 1) (pC (.int 1)))))
 aO)
 (aZ (cN (ae kH false (aa 3) (pC (.int 0))))
 (cg (bb 1 (ee (aH (aa 2) (aH (aa 3) bu)))))
 aO))
def h7:dN:=(aA (au 1 (cG bu))
 (aA (eS (aW (aa 0)) cO
 bF)
 (aM (aa 1))))
def bS:List PyData→Option Sl:=eM 1 4 h7
def dD:gB:=(aD 0)
def dE:bL:=(aa 0)
def cP:iu:=(cN (ae (wL false) false (ae fU false (aa 0) (pC (.int 0))) (aa 1)))
def gk:dN:=(aM (ae kH false (ag bS (ad false (aP [none,some 1] (aW (aa 0)) dD cP dE) ah)) (cG bu)))
def aJ:List PyData→Option Sl:=eM 2 2 gk
def f8:gB:=(aD 0)
def eX:bL:=(ae aG false (aa 0) (aa 1))
def dZ:gB:=(aD 2)
def d0:dN:=(au 1 (ae aG false (aa 1) (aP [none,some 2] (aW (aa 1)) f8 aL eX)))
def gW:dN:=(aA (au 1 (cG (aH (pC (.str "")) bu)))
 (aA (eS (aW (aa 0)) dZ
 d0)
 (aM (aa 1))))
def cJ:List PyData→Option Sl:=eM 1 3 gW
def dF:gB:=(aD 0)
def cL:bL:=(ae (wL false) false (aa 0) (aa 1))
def eY:dN:=(aM (bO sH (ad false (aP [none,some 1] (aW (aa 0)) dF aL cL) ah)))
def dG:List PyData→Option Sl:=eM 2 2 eY
def ji:gB:=(aD 0)
def gX:bL:=(iI (nI .str) (aa 0))
def jj:iu:=(iJ (dv (d_ (ag aJ (ad false (aa 3) (ad false (aa 6) ah))))) (cN (bO qK (ad false (aP [none,some 3,some 6] (nZ (aa 6)) (aD 0) aL (q_ 1 2 0 aJ)) ah))))
def eZ:gB:=(aD 0)
def dU:bL:=(ae fU false (aa 0) (pC (.int 0)))
def lh:gB:=(aD 0)
def jk:bL:=(ag dG (ad false (aa 0) (ad false (aa 1) ah)))
def iE:gB:=(aD 6)
def iF:dN:=(aZ (eR (d_ (ag aJ (ad false (aa 3) (ad false (aa 6) ah)))) (dv (d_ (bO qK (ad false (aP [none,some 6] (mD (aa 5)) lh aL jk) ah)))))
 (aM (pC (.bool false)))
 aO)
def tJ:dN:=(aA (au 1 (ae aG false (pC (.int 1)) (ae bV false (ag aB (ad false (aa 0) (ad false (pC (.int 1)) ah))) (pC (.int 5)))))
 (aA (aZ (cN (ae fg false (ae bV false (ae ba false (ag aB (ad false (aa 0) (ad false (pC (.int 1)) ah))) (pC (.int 5))) (pC (.int 8))) (pC (.int 3))))
 (au 1 (pC (.int 6)))
 aO)
 (aA (au 2 (ag bU (ad false (aa 0) (ad false (pC (.int 2)) (ad false (ag cc (ad false (ag aB (ad false (aa 0) (ad false (pC (.int 0)) ah))) (ad false (aa 1) ah))) (ad false (pC (.int 40)) ah))))))
 (aA (au 3 (ag bS (ad false (aa 2) ah)))
 (aA (au 4 (eD (aa 2)))
 (aA (au 5 (ag bt (ad false (aa 4) ah)))
 (aA (aZ (iJ (dv (d_ (iI (nI .list) (aa 5)))) (iJ (cN (ae kH false (aa 4) (aa 2))) (dv (d_ (bO sH (ad false (aP [none] (mD (aa 5)) ji aL gX) ah))))))
 (aM (pC (.bool false)))
 aO)
 (aA (pT 5 6 jj (aM (pC (.bool false))))
 (aA (eS (aW (ag cJ (ad false (de (aP [none] (aW (aa 2)) eZ aL dU)) ah))) iE
 iF)
 (aA (au 7 (ag aN (ad false (aa 4) ah)))
 (aA (aZ (iJ (cN (ae kH false (ag aE (ad false (eD (aa 7)) ah)) (aa 5))) (cN (ae kH false (ag aE (ad false (eD (aa 5)) ah)) (aa 7))))
 (aM (pC (.bool false)))
 aO)
 (aA (au 8 (eD (aa 5)))
 (aA (cg (bb 5 (pC (.str ""))))
 (aM (nD (ae fg false (ag bt (ad false (aa 4) ah)) (aa 8)) (ae fg false (aa 4) (aa 2)))))))))))))))))
def kh:List PyData→Option Sl:=eM 1 9 tJ
end Nhk36
namespace Nhk36
open PySem L2 Nh PL
def jQ(i:Nat):Stmt:=PySem.Challenge.pw_nailhang_k36_holding_sets.main.body.getD i (.Pass ⟨0,0,0,0⟩)
section
variable {P:Program} {w:World} {K:Frag} {mg:Str→Option Value} {base:Heap}
abbrev lY:Stmt:=jQ 5
theorem u7:FnScope ["thing"] ["thing"] (ao lY):=by and_intros
theorem u8 (D:Def K mg "is_nail" lY ["thing"]) (B:Bn mg):Own P w K mg base 1 "is_nail" ["thing"] (du K fM):=by
 delta fM
 refine fv (g:=jE) D u7 rfl rfl (by decide) fun f cdv A outer s H E hr=>?_
 delta jE
 exact(am (aR (uw (qE .str (by rfl) (by exact B.isinstance) (ab 0) (by rfl) (by exact B.str) PyProof.Rows.boot_str) (uw (vC hr.units (ii (by rfl) (by exact B.len) (af (ab 0) av)) ak) (yk (ED .le .le lN (ab 0) lN))))))
abbrev iR:Stmt:=jQ 6
theorem sc_short_form:FnScope ["cord","runs","nail","turns","total"] ["cord"] (ao iR):=by and_intros
theorem oF (D:Def K mg "short_form" iR ["cord"]) (B:Bn mg):Own P w K mg base 1 "short_form" ["cord"] (du K dW):=by
 delta dW
 refine fv (g:=gD) D sc_short_form rfl rfl (by decide) fun f cdv A outer s H E hr=>?_
 delta gD
 exact(aq (aF 1 sc_short_form.nd (fA dl))
 (aq (gu PassesOwn.never (by rfl) (cV (ab 0)) (by delta bn;exact(qF (by rfl) (gc (aS 2 sc_short_form.nd) (gc (aS 3 sc_short_form.nd) mY))))
 (by delta bq;exact(aq (aF 4 sc_short_form.nd (ab 3))
 (aq (dR (uA (qB (gP (ab 1)) (mW (g8 hr.units (gb (gb (ab 1) (nC ak)) ak) (ab 2)))))
 (am (aF 4 sc_short_form.nd (aY (gb (yo 1) ak) (ab 3))))
 cu)
 (am (dR (oZ hr.units (ab 4) ak)
 (am (gA (gJ 1 (j4 (cr (ab 2) (cr (ab 4) dl))))))
 cu))))))
 (am (aR (ab 1)))))
abbrev lZ:Stmt:=jQ 7
theorem u9:FnScope ["cord"] ["cord"] (ao lZ):=by and_intros
theorem u_ (D:Def K mg "is_fall" lZ ["cord"]) (B:Bn mg) (D_short_form:Own P w K mg base 1 "short_form" ["cord"] (du K dW)):Own P w K mg base 2 "is_fall" ["cord"] (du K fN):=by
 delta fN
 refine fv (g:=jF) D u9 rfl rfl (by decide) fun f cdv A outer s H E hr=>?_
 delta jF
 exact(am (aR (vC hr.units (ii (by rfl) (by exact B.len) (af (aC D_short_form (hr.mono (by decide)) (by rfl) (af (ab 0) av)) av)) ak)))
abbrev n3:Stmt:=jQ 9
theorem sc_set_of:FnScope ["nails","sign"] ["nails"] (ao n3):=by and_intros
theorem xp (D:Def K mg "set_of" n3 ["nails"]) (B:Bn mg) (D_is_nail:Own P w K mg base 1 "is_nail" ["thing"] (du K fM)):Own P w K mg base 2 "set_of" ["nails"] (du K cK):=by
 delta cK
 refine fv (g:=la) D sc_set_of rfl rfl (by decide) fun f cdv A outer s H E hr=>?_
 delta la
 exact(aq (dR (jc (gP (qE .str (by rfl) (by exact B.isinstance) (ab 0) (by rfl) (by exact B.str) PyProof.Rows.boot_str)))
 (am nN)
 cu)
 (aq (gu PassesOwn.never (by rfl) (cV (ab 0)) (by delta gh;exact(aS 1 sc_set_of.nd))
 (by delta gi;exact(am (dR (jc (gP (aC D_is_nail (hr.mono (by decide)) (by rfl) (af (ab 1) av))))
 (am nN)
 cu))))
 (am (aR (qJ (j_ rfl (by rfl) (by exact B.sorted) (by rfl) (by exact B.set) (ab 0)))))))
abbrev ki:Stmt:=jQ 10
theorem tK:FnScope ["cord"] ["cord"] (ao ki):=by and_intros
theorem tL (D:Def K mg "nails_of" ki ["cord"]) (B:Bn mg):Own P w K mg base 1 "nails_of" ["cord"] (du K dO):=by
 delta dO
 refine fv (g:=iO) D tK rfl rfl (by decide) fun f cdv A outer s H E hr=>?_
 delta iO
 exact(am (aR (qJ (j_ rfl (by rfl) (by exact B.sorted) (by rfl) (by exact B.set) (gd (N:=["nail","turns"]) (js:=[none,none]) fJ (by rfl) (cV (ab 0)) (fun _ _ _ _=>(by delta fW;exact(qF (by rfl) (gc (aS 0 (show(["nail","turns"]:List Str).Nodup by decide+kernel)) (gc (aS 1 (show(["nail","turns"]:List Str).Nodup by decide+kernel)) mY))))) (fun _ _ _ _=>(by delta fX;exact(ab 0))))))))
abbrev l5:Stmt:=jQ 11
theorem sc_without:FnScope ["cord","nails","drawn"] ["cord","nails"] (ao l5):=by and_intros
theorem va (D:Def K mg "without" l5 ["cord","nails"]) (B:Bn mg) (D_set_of:Own P w K mg base 2 "set_of" ["nails"] (du K cK)):Own P w K mg base 3 "without" ["cord","nails"] (du K fO):=by
 delta fO
 refine fv (g:=jG) D sc_without rfl rfl (by decide) fun f cdv A outer s H E hr=>?_
 delta jG
 exact(aq (aF 2 sc_without.nd (aC D_set_of (hr.mono (by decide)) (by rfl) (af (ab 1) av)))
 (am (aR (kI (N:=["piece","drawn"]) (js:=[none,some 2]) eT (by rfl) (cV (ab 0)) (fun _ _ _ _=>(by delta gE;exact(aS 0 (show(["piece","drawn"]:List Str).Nodup by decide+kernel)))) (fun _ _ _ _=>(by delta eP;exact(Db (gb (ab 0) ak) (ab 1)))) (fun _ _ _ _=>(by delta gG;exact(ab 0)))))))
abbrev gw:Stmt:=jQ 12
theorem l6:FnScope ["cord","nails"] ["cord","nails"] (ao gw):=by and_intros
theorem l8 (D:Def K mg "falls_without" gw ["cord","nails"]) (B:Bn mg) (D_without:Own P w K mg base 3 "without" ["cord","nails"] (du K fO)) (D_is_fall:Own P w K mg base 2 "is_fall" ["cord"] (du K fN)):Own P w K mg base 4 "falls_without" ["cord","nails"] (du K bZ):=by
 delta bZ
 refine fv (g:=e_) D l6 rfl rfl (by decide) fun f cdv A outer s H E hr=>?_
 delta e_
 exact(am (aR (aC D_is_fall (hr.mono (by decide)) (by rfl) (af (aC D_without (hr.mono (by decide)) (by rfl) (af (ab 0) (af (ab 1) av))) av))))
abbrev l_:Stmt:=jQ 16
theorem sc_bits_of:FnScope ["nails","bits","bit","letter"] ["nails"] (ao l_):=by and_intros
theorem vc (D:Def K mg "bits_of" l_ ["nails"]) (B:Bn mg) {t_LETTERS:Tok} (G_LETTERS:mg "LETTERS"=some (.str "abcdefghijklmnopqrstuvwxyz" t_LETTERS)):Own P w K mg base 1 "bits_of" ["nails"] (du K b_):=by
 delta b_
 refine fv (g:=jH) D sc_bits_of rfl rfl (by decide) fun f cdv A outer s H E hr=>?_
 delta jH
 exact(aq (aF 1 sc_bits_of.nd ak)
 (aq (aF 2 sc_bits_of.nd ak)
 (aq (gu PassesOwn.never (by rfl) (cV (AO (by rfl) (by exact G_LETTERS))) (by delta fD;exact(aS 3 sc_bits_of.nd))
 (by delta fE;exact(aq (dR (B5 (ab 3) (ab 0))
 (am (aF 1 sc_bits_of.nd (aY (ab 1) (ab 2))))
 cu)
 (am (aF 2 sc_bits_of.nd (ig (ab 2) ak))))))
 (am (aR (ab 1))))))
abbrev c7:Stmt:=jQ 17
theorem ma:FnScope ["sets"] ["sets"] (ao c7):=by and_intros
theorem md {c T:Addr} (D:DefT K mg "in_told_order" c7 ["sets"] c T) (B:Bn mg):Own P w K mg base 1 "in_told_order" ["sets"] (du K bx):=by
 delta bx
 refine FT (g:=fb) D ma rfl rfl (by decide) fun f A outer s H E hr=>?_
 delta fb
 exact(am (aR (yW rfl D.tp D.hd hr (by rfl) (by exact B.sorted) (by exact B.len) (ab 0) (by show(Str.ofString "in_told_order"++Str.ofString ".<locals>.")++Str.ofString "<lambda>"=_;decide+kernel))))
abbrev fQ:Stmt:=jQ 18
theorem sc_has_part_among:FnScope ["bits","parts","part"] ["bits","parts"] (ao fQ):=by and_intros
theorem lj (D:Def K mg "has_part_among" fQ ["bits","parts"]) (B:Bn mg):Own P w K mg base 1 "has_part_among" ["bits","parts"] (du K aQ):=by
 delta aQ
 refine fv (g:=dw) D sc_has_part_among rfl rfl (by decide) fun f cdv A outer s H E hr=>?_
 delta dw
 exact(aq (gu PassesOwn.never (by rfl) (cV (ab 1)) (by delta bT;exact(aS 2 sc_has_part_among.nd))
 (by delta bA;exact(am (dR (g8 hr.units (vI (ab 2) (ab 0)) (ab 2))
 (am (aR mz))
 cu))))
 (am (aR mz)))
abbrev iS:Stmt:=jQ 19
theorem sc_meets_each:FnScope ["bits","others","other"] ["bits","others"] (ao iS):=by and_intros
theorem oG (D:Def K mg "meets_each" iS ["bits","others"]) (B:Bn mg):Own P w K mg base 1 "meets_each" ["bits","others"] (du K cH):=by
 delta cH
 refine fv (g:=fF) D sc_meets_each rfl rfl (by decide) fun f cdv A outer s H E hr=>?_
 delta fF
 exact(aq (gu PassesOwn.never (by rfl) (cV (ab 1)) (by delta cX;exact(aS 2 sc_meets_each.nd))
 (by delta cF;exact(am (dR (g8 hr.units (vI (ab 2) (ab 0)) ak)
 (am (aR mz))
 cu))))
 (am (aR mz)))
abbrev kj:Stmt:=jQ 20
theorem sc_least_of:FnScope ["sets","told","kept","nails","bits"] ["sets"] (ao kj):=by and_intros
theorem tM (D:Def K mg "least_of" kj ["sets"]) (B:Bn mg) (D_in_told_order:Own P w K mg base 1 "in_told_order" ["sets"] (du K bx)) (D_bits_of:Own P w K mg base 1 "bits_of" ["nails"] (du K b_)) (D_has_part_among:Own P w K mg base 1 "has_part_among" ["bits","parts"] (du K aQ)):Own P w K mg base 2 "least_of" ["sets"] (du K bJ):=by
 delta bJ
 refine fv (g:=gU) D sc_least_of rfl rfl (by decide) fun f cdv A outer s H E hr=>?_
 delta gU
 exact(aq (aF 1 sc_least_of.nd (fA dl))
 (aq (aF 2 sc_least_of.nd (fA dl))
 (aq (gu PassesOwn.never (by rfl) (cV (aC D_in_told_order (hr.mono (by decide)) (by rfl) (af (ab 0) av))) (by delta dr;exact(aS 3 sc_least_of.nd))
 (by delta cI;exact(aq (aF 4 sc_least_of.nd (aC D_bits_of (hr.mono (by decide)) (by rfl) (af (ab 3) av)))
 (am (dR (jc (gP (aC D_has_part_among (hr.mono (by decide)) (by rfl) (af (ab 4) (af (ab 2) av)))))
 (aq (gA (gJ 2 (ab 4)))
 (am (gA (gJ 1 (ab 3)))))
 cu)))))
 (am (aR (ab 1))))))
abbrev kl:Stmt:=jQ 21
theorem sc_all_sets:FnScope ["nails","sets","nail"] ["nails"] (ao kl):=by and_intros
theorem tN (D:Def K mg "all_sets" kl ["nails"]) (B:Bn mg):Own P w K mg base 1 "all_sets" ["nails"] (du K bh):=by
 delta bh
 refine fv (g:=gV) D sc_all_sets rfl rfl (by decide) fun f cdv A outer s H E hr=>?_
 delta gV
 exact(aq (aF 1 sc_all_sets.nd (fA (cr lN dl)))
 (aq (gu PassesOwn.never (by rfl) (cV (ab 0)) (by delta dX;exact(aS 2 sc_all_sets.nd))
 (by delta dY;exact(am (aF 1 sc_all_sets.nd (aY (ab 1) (gd (N:=["chosen","nail"]) (js:=[none,some 2]) eT (by rfl) (cV (ab 1)) (fun _ _ _ _=>(by delta fY;exact(aS 0 (show(["chosen","nail"]:List Str).Nodup by decide+kernel)))) (fun _ _ _ _=>(by delta eU;exact(aY (ab 0) (ab 1))))))))))
 (am (aR (ab 1)))))
abbrev iT:Stmt:=jQ 22
theorem oH:FnScope ["nails"] ["nails"] (ao iT):=by and_intros
theorem oI (D:Def K mg "check_many" iT ["nails"]) (B:Bn mg) {t_MOST_NAILS:Tok} (G_MOST_NAILS:mg "MOST_NAILS"=some (.int 10 t_MOST_NAILS)):Own P w K mg base 1 "check_many" ["nails"] (du K bM):=by
 delta bM
 refine fv (g:=gH) D oH rfl rfl (by decide) fun f cdv A outer s H E hr=>?_
 delta gH
 exact(am (dR (yA .gt (ii (by rfl) (by exact B.len) (af (ab 0) av)) (AN (by rfl) (by exact G_MOST_NAILS)))
 (am nN)
 cu))
abbrev ip:Stmt:=jQ 23
theorem n5:FnScope ["sets"] ["sets"] (ao ip):=by and_intros
theorem n6 (D:Def K mg "nails_among" ip ["sets"]) (B:Bn mg) (D_set_of:Own P w K mg base 2 "set_of" ["nails"] (du K cK)):Own P w K mg base 3 "nails_among" ["sets"] (du K ck):=by
 delta ck
 refine fv (g:=fZ) D n5 rfl rfl (by decide) fun f cdv A outer s H E hr=>?_
 delta fZ
 exact(am (aR (aC D_set_of (hr.mono (by decide)) (by rfl) (af (qJ (ab 0)) av))))
abbrev iU:Stmt:=jQ 24
theorem oJ:FnScope ["family"] ["family"] (ao iU):=by and_intros
theorem oK (D:Def K mg "least_sets" iU ["family"]) (B:Bn mg) (D_set_of:Own P w K mg base 2 "set_of" ["nails"] (du K cK)) (D_least_of:Own P w K mg base 2 "least_of" ["sets"] (du K bJ)):Own P w K mg base 3 "least_sets" ["family"] (du K bN):=by
 delta bN
 refine fv (g:=gI) D oJ rfl rfl (by decide) fun f cdv A outer s H E hr=>?_
 delta gI
 exact(am (aR (aC D_least_of (hr.mono (by decide)) (by rfl) (af (gd (N:=["nails"]) (js:=[none]) fJ (by rfl) (cV (ab 0)) (fun _ _ _ _=>(by delta cY;exact(aS 0 (show(["nails"]:List Str).Nodup by decide+kernel)))) (fun _ _ _ _=>(by delta cZ;exact(aC D_set_of (hr.mono (by decide)) (by rfl) (af (ab 0) av))))) av))))
abbrev gY:Stmt:=jQ 25
theorem sc_meeting_sets:FnScope ["family","others","nails"] ["family"] (ao gY):=by and_intros
theorem mR (D:Def K mg "meeting_sets" gY ["family"]) (B:Bn mg) (D_least_sets:Own P w K mg base 3 "least_sets" ["family"] (du K bN)) (D_bits_of:Own P w K mg base 1 "bits_of" ["nails"] (du K b_)) (D_nails_among:Own P w K mg base 3 "nails_among" ["sets"] (du K ck)) (D_check_many:Own P w K mg base 1 "check_many" ["nails"] (du K bM)) (D_all_sets:Own P w K mg base 1 "all_sets" ["nails"] (du K bh)) (D_meets_each:Own P w K mg base 1 "meets_each" ["bits","others"] (du K cH)) (D_least_of:Own P w K mg base 2 "least_of" ["sets"] (du K bJ)):Own P w K mg base 4 "meeting_sets" ["family"] (du K aE):=by
 delta aE
 refine fv (g:=eH) D sc_meeting_sets rfl rfl (by decide) fun f cdv A outer s H E hr=>?_
 delta eH
 exact(aq (aF 1 sc_meeting_sets.nd (gd (N:=["nails"]) (js:=[none]) fJ (by rfl) (cV (aC D_least_sets (hr.mono (by decide)) (by rfl) (af (ab 0) av))) (fun _ _ _ _=>(by delta cy;exact(aS 0 (show(["nails"]:List Str).Nodup by decide+kernel)))) (fun _ _ _ _=>(by delta cA;exact(aC D_bits_of (hr.mono (by decide)) (by rfl) (af (ab 0) av))))))
 (aq (aF 2 sc_meeting_sets.nd (aC D_nails_among (hr.mono (by decide)) (by rfl) (af (ab 0) av)))
 (aq (gA (aC D_check_many (hr.mono (by decide)) (by rfl) (af (ab 2) av)))
 (am (aR (aC D_least_of (hr.mono (by decide)) (by rfl) (af (kI (N:=["chosen","others"]) (js:=[none,some 1]) eT (by rfl) (cV (aC D_all_sets (hr.mono (by decide)) (by rfl) (af (ab 2) av))) (fun _ _ _ _=>(by delta cB;exact(aS 0 (show(["chosen","others"]:List Str).Nodup by decide+kernel)))) (fun _ _ _ _=>(by delta bP;exact(gP (aC D_meets_each (hr.mono (by decide)) (by rfl) (af (aC D_bits_of (hr.mono (by decide)) (by rfl) (af (ab 0) av)) (af (ab 1) av)))))) (fun _ _ _ _=>(by delta cC;exact(ab 0)))) av)))))))
abbrev gZ:Stmt:=jQ 27
theorem sc_falling_sets:FnScope ["cord","nails"] ["cord"] (ao gZ):=by and_intros
theorem mS (D:Def K mg "falling_sets" gZ ["cord"]) (B:Bn mg) (D_nails_of:Own P w K mg base 1 "nails_of" ["cord"] (du K dO)) (D_check_many:Own P w K mg base 1 "check_many" ["nails"] (du K bM)) (D_all_sets:Own P w K mg base 1 "all_sets" ["nails"] (du K bh)) (D_falls_without:Own P w K mg base 4 "falls_without" ["cord","nails"] (du K bZ)) (D_least_of:Own P w K mg base 2 "least_of" ["sets"] (du K bJ)):Own P w K mg base 5 "falling_sets" ["cord"] (du K aN):=by
 delta aN
 refine fv (g:=eI) D sc_falling_sets rfl rfl (by decide) fun f cdv A outer s H E hr=>?_
 delta eI
 exact(aq (aF 1 sc_falling_sets.nd (aC D_nails_of (hr.mono (by decide)) (by rfl) (af (ab 0) av)))
 (aq (gA (aC D_check_many (hr.mono (by decide)) (by rfl) (af (ab 1) av)))
 (am (aR (aC D_least_of (hr.mono (by decide)) (by rfl) (af (kI (N:=["chosen","cord"]) (js:=[none,some 0]) eT (by rfl) (cV (aC D_all_sets (hr.mono (by decide)) (by rfl) (af (ab 1) av))) (fun _ _ _ _=>(by delta dg;exact(aS 0 (show(["chosen","cord"]:List Str).Nodup by decide+kernel)))) (fun _ _ _ _=>(by delta cD;exact(gP (aC D_falls_without (hr.mono (by decide)) (by rfl) (af (ab 1) (af (ab 0) av)))))) (fun _ _ _ _=>(by delta dh;exact(ab 0)))) av))))))
abbrev g5:Stmt:=jQ 28
theorem mT:FnScope ["cord"] ["cord"] (ao g5):=by and_intros
theorem mU (D:Def K mg "holding_sets" g5 ["cord"]) (B:Bn mg) (D_falling_sets:Own P w K mg base 5 "falling_sets" ["cord"] (du K aN)) (D_meeting_sets:Own P w K mg base 4 "meeting_sets" ["family"] (du K aE)):Own P w K mg base 6 "holding_sets" ["cord"] (du K bt):=by
 delta bt
 refine fv (g:=eJ) D mT rfl rfl (by decide) fun f cdv A outer s H E hr=>?_
 delta eJ
 exact(am (aR (aC D_meeting_sets (hr.mono (by decide)) (by rfl) (af (aC D_falling_sets (hr.mono (by decide)) (by rfl) (af (ab 0) av)) av))))
abbrev n8:Stmt:=jQ 30
theorem xq:FnScope ["_law_script","_law_k"] ["_law_script","_law_k"] (ao n8):=by and_intros
theorem xr (D:Def K mg "_law_at" n8 ["_law_script","_law_k"]) (B:Bn mg):Own P w K mg base 1 "_law_at" ["_law_script","_law_k"] (du K aB):=by
 delta aB
 refine fv (g:=lg) D xq rfl rfl (by decide) fun f cdv A outer s H E hr=>?_
 delta lg
 exact(aq (dR (yA .lt (ab 1) (ii (by rfl) (by exact B.len) (af (ab 0) av)))
 (am (aR (gb (ab 0) (ab 1))))
 cu)
 (am (aR ak)))
abbrev km:Stmt:=jQ 31
theorem sc_law_stir:FnScope ["_law_cell","_law_k","_law_value"] ["_law_cell","_law_k"] (ao km):=by and_intros
theorem tO (D:Def K mg "_law_stir" km ["_law_cell","_law_k"]) (B:Bn mg):Own P w K mg base 1 "_law_stir" ["_law_cell","_law_k"] (du K bE):=by
 delta bE
 refine fv (g:=iP) D sc_law_stir rfl rfl (by decide) fun f cdv A outer s H E hr=>?_
 delta iP
 exact(aq (aF 2 sc_law_stir.nd (cU (aY (aY (aY (cU (ab 0) ak) (ig ak (ab 1))) (ig (ab 1) (ab 1))) ak) ak))
 (aq (aF 2 sc_law_stir.nd (cU (ig (ab 2) (ab 2)) ak))
 (am (aR (dP (cU (aY (ig (ab 2) ak) (ig ak (ab 1))) ak) ak)))))
abbrev jl:Stmt:=jQ 32
theorem sc_law_nails:FnScope ["_law_cell","_law_many","_law_letters","_law_step"] ["_law_cell","_law_many"] (ao jl):=by and_intros
theorem rc (D:Def K mg "_law_nails" jl ["_law_cell","_law_many"]) (B:Bn mg):Own P w K mg base 1 "_law_nails" ["_law_cell","_law_many"] (du K cc):=by
 delta cc
 refine fv (g:=hZ) D sc_law_nails rfl rfl (by decide) fun f cdv A outer s H E hr=>?_
 refine uF 1 [1,3,5,7,9,11,15,17,19,21,23,25] rfl rfl fun es hes=>?_
 delta hZ
 exact(aq (aF 2 sc_law_nails.nd lN)
 (aq (aF 3 sc_law_nails.nd (gb (fA (vH hes)) (cU (dP (ab 0) ak) ak)))
 (am (aR (gd (N:=["_law_k","_law_letters","_law_cell","_law_step"]) (js:=[none,some 2,some 0,some 3]) eT (by rfl) (o5 (by rfl) (by exact B.range) (af (ab 1) av)) (fun _ _ _ _=>(by delta eK;exact(aS 0 (show(["_law_k","_law_letters","_law_cell","_law_step"]:List Str).Nodup by decide+kernel)))) (fun _ _ _ _=>(by delta dC;exact(gb (ab 1) (cU (aY (ab 2) (ig (ab 0) (ab 3))) ak)))))))))
abbrev kn:Stmt:=jQ 33
theorem sc_law_back:FnScope ["_law_cord_here","_law_found"] ["_law_cord_here"] (ao kn):=by and_intros
theorem tP (D:Def K mg "_law_back" kn ["_law_cord_here"]) (B:Bn mg):Own P w K mg base 1 "_law_back" ["_law_cord_here"] (du K aI):=by
 delta aI
 refine fv (g:=iQ) D sc_law_back rfl rfl (by decide) fun f cdv A outer s H E hr=>?_
 delta iQ
 exact(aq (yu 1 sc_law_back.nd (N:=["_law_nail","_law_turns_here"]) (js:=[none,none]) fJ (by rfl) (cV (ab 0)) (fun _ _ _ _=>(by delta f7;exact(qF (by rfl) (gc (aS 0 (show(["_law_nail","_law_turns_here"]:List Str).Nodup by decide+kernel)) (gc (aS 1 (show(["_law_nail","_law_turns_here"]:List Str).Nodup by decide+kernel)) mY))))) (fun _ _ _ _=>(by delta eW;exact(j4 (cr (ab 0) (cr (lO ak (ab 1)) dl))))))
 (aq (gA (uL 1))
 (am (aR (ab 1)))))
abbrev jm:Stmt:=jQ 34
theorem re:FnScope ["_law_cell"] ["_law_cell"] (ao jm):=by and_intros
theorem rf (D:Def K mg "_law_turns" jm ["_law_cell"]) (B:Bn mg):Own P w K mg base 1 "_law_turns" ["_law_cell"] (du K bG):=by
 delta bG
 refine fv (g:=ft) D re rfl rfl (by decide) fun f cdv A outer s H E hr=>?_
 delta ft
 exact(aq (dR (g8 hr.units (cU (ab 0) ak) ak)
 (am (aR (lO (cU (dP (ab 0) ak) (ig ak (j0 ak ak))) (j0 ak ak))))
 cu)
 (am (aR (aY (lO (cU (ab 0) ak) ak) (AL (by rfl) (by exact B.int) (af (EC .gt (cU (ab 0) ak) ak) av))))))
abbrev gy:Stmt:=jQ 35
theorem sc_law_by_digits:FnScope ["_law_cell","_law_some","_law_most","_law_cord_here","_law_rest","_law_k","_law_nail","_law_turns_here"] ["_law_cell","_law_some","_law_most"] (ao gy):=by and_intros
theorem me (D:Def K mg "_law_by_digits" gy ["_law_cell","_law_some","_law_most"]) (B:Bn mg):Own P w K mg base 1 "_law_by_digits" ["_law_cell","_law_some","_law_most"] (du K bK):=by
 delta bK
 refine fv (g:=fc) D sc_law_by_digits rfl rfl (by decide) fun f cdv A outer s H E hr=>?_
 delta fc
 exact(aq (aF 3 sc_law_by_digits.nd (fA dl))
 (aq (aF 4 sc_law_by_digits.nd (dP (ab 0) (aY (ab 2) ak)))
 (aq (gu PassesOwn.never (by rfl) (o5 (by rfl) (by exact B.range) (af (cU (ab 0) (aY (ab 2) ak)) av)) (by delta bi;exact(aS 5 sc_law_by_digits.nd))
 (by delta bj;exact(aq (aF 6 sc_law_by_digits.nd (gb (ab 1) (cU (ab 4) (ii (by rfl) (by exact B.len) (af (ab 1) av)))))
 (aq (aF 4 sc_law_by_digits.nd (dP (ab 4) (ii (by rfl) (by exact B.len) (af (ab 1) av))))
 (aq (aF 7 sc_law_by_digits.nd (lO (cU (ab 4) ak) ak))
 (aq (aF 4 sc_law_by_digits.nd (dP (ab 4) ak))
 (aq (dR (uA (qB (g8 hr.units (ab 7) (nC ak)) (mW (g8 hr.units (cU (ab 4) ak) ak))))
 (aq (aF 7 sc_law_by_digits.nd (lO (cU (dP (ab 4) ak) (ig ak (j0 ak ak))) (j0 ak ak)))
 (am (aF 4 sc_law_by_digits.nd (dP (ab 4) (ig ak (j0 ak ak))))))
 (am (dR (g8 hr.units (ab 7) (nC ak))
 (am (aF 4 sc_law_by_digits.nd (dP (ab 4) ak)))
 cu)))
 (am (gA (gJ 3 (j4 (cr (ab 6) (cr (ab 7) dl)))))))))))))
 (am (aR (ab 3))))))
abbrev jn:Stmt:=jQ 36
theorem sc_law_built:FnScope ["_law_script","_law_first","_law_some","_law_most","_law_cord_here","_law_k","_law_cell","_law_piece","_law_other","_law_way","_law_at_here"] ["_law_script","_law_first","_law_some","_law_most"] (ao jn):=by and_intros
theorem rh (D:Def K mg "_law_built" jn ["_law_script","_law_first","_law_some","_law_most"]) (B:Bn mg) (D_law_at:Own P w K mg base 1 "_law_at" ["_law_script","_law_k"] (du K aB)) (D_law_stir:Own P w K mg base 1 "_law_stir" ["_law_cell","_law_k"] (du K bE)) (D_law_turns:Own P w K mg base 1 "_law_turns" ["_law_cell"] (du K bG)) (D_law_back:Own P w K mg base 1 "_law_back" ["_law_cord_here"] (du K aI)):Own P w K mg base 2 "_law_built" ["_law_script","_law_first","_law_some","_law_most"] (du K di):=by
 delta di
 refine fv (g:=gj) D sc_law_built rfl rfl (by decide) fun f cdv A outer s H E hr=>?_
 delta gj
 exact(aq (aF 4 sc_law_built.nd (fA dl))
 (aq (gu PassesOwn.never (by rfl) (wI (by rfl) (by exact B.range) (af (ab 1) (af (aY (ab 1) ak) av))) (by delta bQ;exact(aS 5 sc_law_built.nd))
 (by delta bR;exact(aq (aF 6 sc_law_built.nd (aC D_law_stir (hr.mono (by decide)) (by rfl) (af (aY (aC D_law_at (hr.mono (by decide)) (by rfl) (af (ab 0) (af (ab 5) av))) (ab 5)) (af (ab 5) av))))
 (aq (aF 7 sc_law_built.nd (fA (cr (j4 (cr (gb (ab 2) (cU (dP (ab 6) ak) (ii (by rfl) (by exact B.len) (af (ab 2) av)))) (cr (aC D_law_turns (hr.mono (by decide)) (by rfl) (af (aC D_law_stir (hr.mono (by decide)) (by rfl) (af (aC D_law_at (hr.mono (by decide)) (by rfl) (af (ab 0) (af (ab 5) av))) (af (aY ak (ab 5)) av))) av)) dl))) dl)))
 (aq (aF 8 sc_law_built.nd (fA (cr (j4 (cr (gb (ab 2) (cU (dP (ab 6) ak) (ii (by rfl) (by exact B.len) (af (ab 2) av)))) (cr (aY ak (cU (dP (ab 6) ak) ak)) dl))) dl)))
 (aq (aF 9 sc_law_built.nd (cU (ab 6) ak))
 (aq (dR (yA .gt (ii (by rfl) (by exact B.len) (af (ab 4) av)) (lO (dP (ab 3) ak) ak))
 (am (aF 9 sc_law_built.nd ak))
 cu)
 (am (dR (uA (vD (g8 hr.units (ab 9) ak) (uz (g8 hr.units (ab 9) ak))))
 (am (aF 4 sc_law_built.nd (aY (aY (aY (ab 4) (ab 7)) (aC D_law_back (hr.mono (by decide)) (by rfl) (af (ab 4) av))) (aC D_law_back (hr.mono (by decide)) (by rfl) (af (ab 7) av)))))
 (am (dR (g8 hr.units (ab 9) ak)
 (am (aF 4 sc_law_built.nd (aY (aY (ab 7) (ab 4)) (aC D_law_back (hr.mono (by decide)) (by rfl) (af (ab 7) av)))))
 (am (dR (g8 hr.units (ab 9) ak)
 (aq (aF 10 sc_law_built.nd (cU (dP (ab 6) ak) (aY (ii (by rfl) (by exact B.len) (af (ab 4) av)) ak)))
 (am (aF 4 sc_law_built.nd (aY (aY (aY (aY (uK (ab 4) qC (qD (ab 10))) (ab 8)) (fA (cr (j4 (cr (gb (gb (ab 7) ak) ak) (cr ak dl))) dl))) (aC D_law_back (hr.mono (by decide)) (by rfl) (af (ab 8) av))) (uK (ab 4) (qD (ab 10)) qC)))))
 (am (dR (g8 hr.units (ab 9) ak)
 (am (aF 4 sc_law_built.nd (aY (aY (aY (aY (ab 4) (ab 8)) (ab 7)) (aC D_law_back (hr.mono (by decide)) (by rfl) (af (ab 8) av))) (aC D_law_back (hr.mono (by decide)) (by rfl) (af (ab 7) av)))))
 (am (aF 4 sc_law_built.nd (aY (ab 4) (ab 7)))))))))))))))))))
 (am (aR (uK (ab 4) qC (qD (ab 3)))))))
abbrev kq:Stmt:=jQ 37
theorem sc_law_cord:FnScope ["_law_script","_law_first","_law_some","_law_most","_law_cell"] ["_law_script","_law_first","_law_some","_law_most"] (ao kq):=by and_intros
theorem tQ (D:Def K mg "_law_cord" kq ["_law_script","_law_first","_law_some","_law_most"]) (B:Bn mg) (D_law_at:Own P w K mg base 1 "_law_at" ["_law_script","_law_k"] (du K aB)) (D_law_by_digits:Own P w K mg base 1 "_law_by_digits" ["_law_cell","_law_some","_law_most"] (du K bK)) (D_law_built:Own P w K mg base 2 "_law_built" ["_law_script","_law_first","_law_some","_law_most"] (du K di)):Own P w K mg base 3 "_law_cord" ["_law_script","_law_first","_law_some","_law_most"] (du K bU):=by
 delta bU
 refine fv (g:=fP) D sc_law_cord rfl rfl (by decide) fun f cdv A outer s H E hr=>?_
 delta fP
 exact(aq (aF 4 sc_law_cord.nd (aC D_law_at (hr.mono (by decide)) (by rfl) (af (ab 0) (af (ab 1) av))))
 (aq (dR (jc (EE .lt .lt (nC (j0 ak ak)) (ab 4) (j0 ak ak)))
 (am (aR (aC D_law_by_digits (hr.mono (by decide)) (by rfl) (af (ab 4) (af (ab 2) (af (ab 3) av))))))
 cu)
 (am (aR (aC D_law_built (hr.mono (by decide)) (by rfl) (af (ab 0) (af (aY (ab 1) ak) (af (ab 2) (af (ab 3) av)))))))))
abbrev jr:Stmt:=jQ 38
theorem sc_law_short:FnScope ["_law_cord_here","_law_runs","_law_nail","_law_turns_here"] ["_law_cord_here"] (ao jr):=by and_intros
theorem rj (D:Def K mg "_law_short" jr ["_law_cord_here"]) (B:Bn mg):Own P w K mg base 1 "_law_short" ["_law_cord_here"] (du K bS):=by
 delta bS
 refine fv (g:=h7) D sc_law_short rfl rfl (by decide) fun f cdv A outer s H E hr=>?_
 delta h7
 exact(aq (aF 1 sc_law_short.nd (fA dl))
 (aq (gu PassesOwn.never (by rfl) (cV (ab 0)) (by delta cO;exact(qF (by rfl) (gc (aS 2 sc_law_short.nd) (gc (aS 3 sc_law_short.nd) mY))))
 (by delta bF;exact(aq (dR (uA (qB (oZ hr.units (ab 1) (fA dl)) (mW (g8 hr.units (gb (gb (ab 1) (nC ak)) ak) (ab 2)))))
 (am (aF 3 sc_law_short.nd (aY (ab 3) (gb (yo 1) ak))))
 cu)
 (am (dR (oZ hr.units (ab 3) ak)
 (am (gA (gJ 1 (j4 (cr (ab 2) (cr (ab 3) dl))))))
 cu)))))
 (am (aR (ab 1)))))
abbrev jt:Stmt:=jQ 39
theorem rk:FnScope ["_law_runs","_law_kept"] ["_law_runs","_law_kept"] (ao jt):=by and_intros
theorem rn (D:Def K mg "_law_holds" jt ["_law_runs","_law_kept"]) (B:Bn mg) (D_law_short:Own P w K mg base 1 "_law_short" ["_law_cord_here"] (du K bS)):Own P w K mg base 2 "_law_holds" ["_law_runs","_law_kept"] (du K aJ):=by
 delta aJ
 refine fv (g:=gk) D rk rfl rfl (by decide) fun f cdv A outer s H E hr=>?_
 delta gk
 exact(am (aR (Ev hr.units (aC D_law_short (hr.mono (by decide)) (by rfl) (af (kI (N:=["_law_piece","_law_kept"]) (js:=[none,some 1]) eT (by rfl) (cV (ab 0)) (fun _ _ _ _=>(by delta dD;exact(aS 0 (show(["_law_piece","_law_kept"]:List Str).Nodup by decide+kernel)))) (fun _ _ _ _=>(by delta cP;exact(B5 (gb (ab 0) ak) (ab 1)))) (fun _ _ _ _=>(by delta dE;exact(ab 0)))) av)) (fA dl))))
abbrev kt:Stmt:=jQ 40
theorem sc_law_sets:FnScope ["_law_names","_law_found","_law_nail"] ["_law_names"] (ao kt):=by and_intros
theorem tR (D:Def K mg "_law_sets" kt ["_law_names"]) (B:Bn mg):Own P w K mg base 1 "_law_sets" ["_law_names"] (du K cJ):=by
 delta cJ
 refine fv (g:=gW) D sc_law_sets rfl rfl (by decide) fun f cdv A outer s H E hr=>?_
 delta gW
 exact(aq (aF 1 sc_law_sets.nd (fA (cr lN dl)))
 (aq (gu PassesOwn.never (by rfl) (cV (ab 0)) (by delta dZ;exact(aS 2 sc_law_sets.nd))
 (by delta d0;exact(am (aF 1 sc_law_sets.nd (aY (ab 1) (gd (N:=["_law_one","_law_nail"]) (js:=[none,some 2]) eT (by rfl) (cV (ab 1)) (fun _ _ _ _=>(by delta f8;exact(aS 0 (show(["_law_one","_law_nail"]:List Str).Nodup by decide+kernel)))) (fun _ _ _ _=>(by delta eX;exact(aY (ab 0) (ab 1))))))))))
 (am (aR (ab 1)))))
abbrev iq:Stmt:=jQ 41
theorem n_:FnScope ["_law_one","_law_other"] ["_law_one","_law_other"] (ao iq):=by and_intros
theorem oa (D:Def K mg "_law_is_part" iq ["_law_one","_law_other"]) (B:Bn mg):Own P w K mg base 1 "_law_is_part" ["_law_one","_law_other"] (du K dG):=by
 delta dG
 refine fv (g:=eY) D n_ rfl rfl (by decide) fun f cdv A outer s H E hr=>?_
 delta eY
 exact(am (aR (yC (by rfl) (by rfl) (by exact B.all) (af (gd (N:=["_law_nail","_law_other"]) (js:=[none,some 1]) eT (by rfl) (cV (ab 0)) (fun _ _ _ _=>(by delta dF;exact(aS 0 (show(["_law_nail","_law_other"]:List Str).Nodup by decide+kernel)))) (fun _ _ _ _=>(by delta cL;exact(EF (ab 0) (ab 1))))) av))))
abbrev oe:Stmt:=jQ 42
theorem sc_law:FnScope ["_law_script","_law_many","_law_cord_here","_law_runs","_law_handed","_law_found","_law_one","_law_falling","_law_kept"] ["_law_script"] (ao oe):=by and_intros
theorem Dx {f0:Addr} {fd:FuncData} (D:Fun K "law" "law" oe f0 fd) (B:Bn mg) (D_law_at:Own P w K mg base 1 "_law_at" ["_law_script","_law_k"] (du K aB)) (D_law_nails:Own P w K mg base 1 "_law_nails" ["_law_cell","_law_many"] (du K cc)) (D_law_cord:Own P w K mg base 3 "_law_cord" ["_law_script","_law_first","_law_some","_law_most"] (du K bU)) (D_law_short:Own P w K mg base 1 "_law_short" ["_law_cord_here"] (du K bS)) (D_holding_sets:Own P w K mg base 6 "holding_sets" ["cord"] (du K bt)) (D_law_holds:Own P w K mg base 2 "_law_holds" ["_law_runs","_law_kept"] (du K aJ)) (D_law_sets:Own P w K mg base 1 "_law_sets" ["_law_names"] (du K cJ)) (D_law_is_part:Own P w K mg base 1 "_law_is_part" ["_law_one","_law_other"] (du K dG)) (D_falling_sets:Own P w K mg base 5 "falling_sets" ["cord"] (du K aN)) (D_meeting_sets:Own P w K mg base 4 "meeting_sets" ["family"] (du K aE)):FnOk P w K mg base wA 7 f0 fd ["_law_script"] (du K kh):=by
 delta kh
 refine Gm (g:=tJ) D sc_law rfl rfl (by decide) fun cdv A outer s H E hr=>?_
 delta tJ
 exact(Bm (i:=1) sc_law.nd rfl rfl (aY ak (cU (aC D_law_at (hr.mono (by decide)) (by rfl) (af (ab 0) (af ak av))) ak))
 (cW (PS.tk (dR (g8 hr.units (cU (dP (aC D_law_at (hr.mono (by decide)) (by rfl) (af (ab 0) (af ak av))) ak) ak) ak)
 (am (aF 1 sc_law.nd ak))
 cu))
 (cW (PS.tk (aF 2 sc_law.nd (aC D_law_cord (hr.mono (by decide)) (by rfl) (af (ab 0) (af ak (af (aC D_law_nails (hr.mono (by decide)) (by rfl) (af (aC D_law_at (hr.mono (by decide)) (by rfl) (af (ab 0) (af ak av))) (af (ab 1) av))) (af ak av)))))))
 (cW (PS.tk (aF 3 sc_law.nd (aC D_law_short (hr.mono (by decide)) (by rfl) (af (ab 2) av))))
 (cW (PS.tk (aF 4 sc_law.nd (mX (by rfl) (by exact B.list) (ab 2))))
 (cW (PS.tk (aF 5 sc_law.nd (aC D_holding_sets (hr.mono (by decide)) (by rfl) (af (ab 4) av))))
 (cW (PS.tk (dR (uA (vD (jc (gP (qE .list (by rfl) (by exact B.isinstance) (ab 5) (by rfl) (by exact B.list) PyProof.Rows.boot_list))) (vD (oZ hr.units (ab 4) (ab 2)) (uz (jc (gP (yC (by rfl) (by rfl) (by exact B.all) (af (o8 (N:=["_law_one"]) (js:=[none]) fJ (by rfl) (vG (ab 5)) (fun _ _ _ _=>(by delta ji;exact(aS 0 (show(["_law_one"]:List Str).Nodup by decide+kernel)))) (fun _ _ _ _=>(by delta gX;exact(qE .str (by rfl) (by exact B.isinstance) (ab 0) (by rfl) (by exact B.str) PyProof.Rows.boot_str)))) av))))))))
 (am (aR mz))
 cu))
 (cW (zg 5 6 PassesOwn.never (by rfl) sc_law.nd rfl (by first |exact Or.inl rfl |exact Or.inr rfl) (by first |exact .inl rfl |exact .inr rfl) rfl (by first |exact Or.inl rfl |exact Or.inr (Or.inl rfl) |exact Or.inr (Or.inr rfl)) (by decide) (by decide) (by delta jj;exact(ES (Dw (PT.tk (jc (gP (aC D_law_holds (hr.mono (by decide)) (by rfl) (af (ab 3) (af (ab 6) av)))))) (Bj (Bk (by rfl) (by rfl) (by exact B.any) (zc (N:=["_law_nail","_law_runs","_law_one"]) (js:=[none,some 3,some 6]) (nm:="_law_nail") (i:=1) (ib:=2) (ic:=0) eT (by rfl) rfl (by decide+kernel) rfl (ab 6) (fun _ _ _ _=>Ds D_law_holds (hr.mono (by decide)) (by rfl) (Bd (i:=1) (Dr (Dt (ib:=2) (ic:=0) (fS 1) rfl rfl (by first |exact Or.inl rfl |exact Or.inr (Or.inl rfl) |exact Or.inr (Or.inr rfl)) rfl (by decide) (by decide) (by decide) (by decide) rfl rfl rfl rfl) rfl) rfl (by first |exact Or.inl rfl |exact Or.inr (Or.inl rfl) |exact Or.inr (Or.inr rfl)) (by decide) (by decide) rfl) (by decide) rfl rfl) (by intro _;rfl)) rfl rfl (by exact fun _=>rfl))))))
 (PSs.tk (am (aR mz))))
 (cW (PS.tk (gu PassesOwn.never (by rfl) (cV (aC D_law_sets (hr.mono (by decide)) (by rfl) (af (j_ rfl (by rfl) (by exact B.sorted) (by rfl) (by exact B.set) (gd (N:=["_law_piece"]) (js:=[none]) fJ (by rfl) (cV (ab 2)) (fun _ _ _ _=>(by delta eZ;exact(aS 0 (show(["_law_piece"]:List Str).Nodup by decide+kernel)))) (fun _ _ _ _=>(by delta dU;exact(gb (ab 0) ak))))) av))) (by delta iE;exact(aS 6 sc_law.nd))
 (by delta iF;exact(am (dR (uA (qB (gP (aC D_law_holds (hr.mono (by decide)) (by rfl) (af (ab 3) (af (ab 6) av)))) (mW (jc (gP (De (by rfl) (by rfl) (by exact B.any) (af (o8 (N:=["_law_other","_law_one"]) (js:=[none,some 6]) eT (by rfl) (vG (ab 5)) (fun _ _ _ _=>(by delta lh;exact(aS 0 (show(["_law_other","_law_one"]:List Str).Nodup by decide+kernel)))) (fun _ _ _ _=>(by delta jk;exact(aC D_law_is_part (hr.mono (by decide)) (by rfl) (af (ab 0) (af (ab 1) av)))))) av)))))))
 (am (aR mz))
 cu)))))
 (cW (PS.tk (aF 7 sc_law.nd (aC D_falling_sets (hr.mono (by decide)) (by rfl) (af (ab 4) av))))
 (cW (PS.tk (dR (uA (vD (oZ hr.units (aC D_meeting_sets (hr.mono (by decide)) (by rfl) (af (mX (by rfl) (by exact B.list) (ab 7)) av)) (ab 5)) (uz (oZ hr.units (aC D_meeting_sets (hr.mono (by decide)) (by rfl) (af (mX (by rfl) (by exact B.list) (ab 5)) av)) (ab 7)))))
 (am (aR mz))
 cu))
 (cW (PS.tk (aF 8 sc_law.nd (mX (by rfl) (by exact B.list) (ab 5))))
 (cW (PS.tk (gA (gJ 5 lN)))
 (zf (PS.tk (aR (uw (vC hr.units (aC D_holding_sets (hr.mono (by decide)) (by rfl) (af (ab 4) av)) (ab 8)) (yk (vC hr.units (ab 4) (ab 2))))))))))))))))))) rfl)
end
end Nhk36
namespace Nhk36
open PySem L2 Nh PL
theorem Bp(w:List Nat):(⟨w.toArray⟩:Str).length=w.length:=by show w.toArray.size=_;simp
theorem jI(ns:List Int)(k:Nat):aB [.list (ns.map .int),.int k]=some (.sh (.int (ns.getD k 0))):=by
 simp only[aB,eM,Z4,Z5,Nat.reduceAdd,fu,lg,aA,aZ,cN,ae,aa,a_,ce,fm,Nat.sub_self,List.replicate,Z9,Z8,Z3,Z2,Sl.isBr,bO,ad,ah,Z1,ef,eC,look,Sl.val,fB,Cm.i,Cm.s,Z0,be,aM,fU,eL,cE,aO,pC,cn,bC,bB]
 by_cases h:k < ns.length
 ·simp[h,iz,cS,cn,bC]
 ·simp[h,List.getElem?_eq_none (Nat.le_of_not_lt h),cS,cn,bC]
theorem aT{f g:dN}{E E1:List Sl}(h:f E=some (E1,.nx)):aA f g E=g E1:=by
 unfold aA
 rw[h]
 rfl
theorem mI{c:iu}{a b:dN}{E E1:List Sl}{r:Option (List Sl×Fl)}(h:c E=some (false,E1))(k:b E1=r):aZ c a b E=r:=by
 unfold aZ
 rw[h,←k]
 rfl
theorem og{c:iu}{a b:dN}{E E1:List Sl}{r:Option (List Sl×Fl)}(h:c E=some (true,E1))(k:a E1=r):aZ c a b E=r:=by
 unfold aZ
 rw[h,←k]
 rfl
theorem h9{tg:gB}{elt:bL}{d r:PyData}{ds rs:List PyData}{E E1:List Sl}(t:tg d E=some E1)(el:elt E1=some (.sh r,E1))(h:bW tg aL elt ds E1=some rs):bW tg aL elt (d::ds) E=some (r::rs):=by
 rw[bW,t,Option.bind_some]
 simp only[aL,Z0,el,frz,h,Z1,if_true]
theorem Bq(cell k:Int)(a:∀i:Int,ga i k=true)(b:∀i j:Int,ga (i % 2147483629) j=true)(c:∀i j:Int,ga (i % 2147483587) j=true):∃z:Int,bE [.int cell,.int k]=some (.sh (.int z)):=by
 have d1:fI 13=true:=by decide
 simp only[bE,eM,Z4,Z5,Nat.reduceAdd,fu,iP,aA,au,ae,aa,a_,ce,fm,Nat.reduceSub,List.replicate,Z9,Z8,Z2,Sl.isBr,pC,bV,eC,look,Sl.val,ja,Z0,Int.reduceLT,Z1,gM,eL,cE,aG,Z3,a,PL.settle,frz,frzAll,Nat.reduceLT,Z7,Z6,aM,ba,b,c,d1,cn,bC,cS,bB]
 exact⟨_,rfl⟩
theorem mJ(cell k:Int)(h1: -100000≤k)(h2:k≤100000):∃z:Int,bE [.int cell,.int k]=some (.sh (.int z)):=by
 refine Bq cell k (fun i=>qQ (by omega) (by omega)) (fun i j=>?_) (fun i j=>?_)
 ·have m0:=Int.emod_nonneg i (show(2147483629:Int)≠0 by decide)
  have m1:=wd i (show(0:Int) < 2147483629 by decide)
  exact kW (by omega) (by omega)
 ·have m0:=Int.emod_nonneg i (show(2147483587:Int)≠0 by decide)
  have m1:=wd i (show(0:Int) < 2147483587 by decide)
  exact kW (by omega) (by omega)
def fG(a:Nat):PyData:=.str ⟨#[a]⟩
theorem lm:∀w:List Nat,bH (w.map fG)=true
 |[]=>rfl
 |a::w=>by simp[bH,cS,lm w,fG]
theorem zh(cell step k:Int)(m:ga k step=true):dC [.sh (.int k),.sh (.str "abcdefghijklmnopqrstuvwxyz"),.sh (.int cell),.sh (.int step)]=some (.sh (fG (97+((cell+k*step) % 26).toNat)),[.sh (.int k),.sh (.str "abcdefghijklmnopqrstuvwxyz"),.sh (.int cell),.sh (.int step)]):=by
 simp only[dC,ae,aa,Z3,Z2,Sl.isBr,gM,look,Sl.val,eL,cE,aG,pC,bV,eC,ja,Z0,fU,m,Int.reduceLT,Z1,Dg,FP,fG,bB]
theorem Br:∀i,i < 12→∃v:Int,[PyData.int 1,.int 3,.int 5,.int 7,.int 9,.int 11,.int 15,.int 17,.int 19,.int 21,.int 23,.int 25][i]? =some (.int v)∧0≤v∧v≤100
 | 0,_=>⟨1,rfl,by decide,by decide⟩
 | 1,_=>⟨3,rfl,by decide,by decide⟩
 | 2,_=>⟨5,rfl,by decide,by decide⟩
 | 3,_=>⟨7,rfl,by decide,by decide⟩
 | 4,_=>⟨9,rfl,by decide,by decide⟩
 | 5,_=>⟨11,rfl,by decide,by decide⟩
 | 6,_=>⟨15,rfl,by decide,by decide⟩
 | 7,_=>⟨17,rfl,by decide,by decide⟩
 | 8,_=>⟨19,rfl,by decide,by decide⟩
 | 9,_=>⟨21,rfl,by decide,by decide⟩
 | 10,_=>⟨23,rfl,by decide,by decide⟩
 | 11,_=>⟨25,rfl,by decide,by decide⟩
theorem xt (cell many step i:Int) (n:Nat) (ws:List PyData) (dd:fI 26=true) (hi:cell / 26 % 12=i) (hs:atI [PyData.int 1,.int 3,.int 5,.int 7,.int 9,.int 11,.int 15,.int 17,.int 19,.int 21,.int 23,.int 25] i=some (.int step)) (o1: -1000000≤many) (o2:many≤1000000) (hn:many.toNat=n) (e:bW eK aL dC (jd 0 n) [.no,.sh (.str "abcdefghijklmnopqrstuvwxyz"),.sh (.int cell),.sh (.int step)]=some ws) (fl:bH ws=true) (ll:ws.length≤1000000):cc [.int cell,.int many]=some (.ow ws):=by
 simp only[cc,eM,Z4,Z5,Nat.reduceAdd,fu,hZ,aA,au,pC,a_,ce,fm,Nat.reduceSub,List.replicate,Z9,Z8,PL.settle,frz,frzAll,Z0,Nat.reduceLT,Z7,Z6,ae,cG,yw,Nat.reduceLeDiff,Sl.isBr,aa,ba,eC,look,Sl.val,ja,bV,fU,eL,cE,aM,aP,nJ,ad,ah,Z1,gS,mC,Z2,dd,Int.reduceLT,hi,hs,Z3,be,o1,o2,and_self,hn,e,fl,ll,cn,bC,bB]
theorem vV:∀(d:List Pc) (x0 x1:Sl),bW f7 aL eW (d.map aj) [x0,x1]=some ((d.map fun p=>((p.1,-p.2):Pc)).map aj)
 |[],x0,x1=>rfl
 |p::d,x0,x1=>by
  have e:(f7 (aj p) [x0,x1])=some [.sh (.str ⟨#[p.1]⟩),.sh (.int p.2)]:=rfl
  have e2:eW [.sh (.str ⟨#[p.1]⟩),.sh (.int p.2)]=some (.sh (aj (p.1,-p.2)),[.sh (.str ⟨#[p.1]⟩),.sh (.int p.2)]):=by
   simp only[eW,ee,aH,aa,Z2,frz,ae,pC,Sl.isBr,i6,eC,look,Sl.val,ja,Z0,bu,Z1,Z3,Int.zero_sub,Z4,Z5,Nat.reduceAdd,Nat.reduceLeDiff,aj,bB]
  rw[ce,bW,e,Option.bind_some]
  simp only[aL,frz,Z0,e2,vV d,Z1,if_true,ce]
theorem ju(c:List Pc)(h:c.length≤1000000):aI [.list (c.map aj)]=some (.ow ((NH.contr c).map aj)):=by
 have k:=vV c .no .no
 have r:((c.map fun p=>((p.1,-p.2):Pc)).map aj).reverse=(NH.contr c).map aj:=by
  unfold NH.contr
  rw[←List.map_reverse,←List.map_reverse]
 have fl:bH ((c.map fun p=>((p.1,-p.2):Pc)).map aj)=true:=dS _
 have fl2:bH ((NH.contr c).map aj)=true:=dS _
 have ll:((c.map fun p=>((p.1,-p.2):Pc)).map aj).length≤1000000:=by simpa using h
 generalize (c.map fun p=>((p.1,-p.2):Pc)).map aj=W at k r fl ll
 simp only[aI,eM,Z4,Z5,fu,iQ,aA,au,aP,aW,aa,a_,ce,fm,Nat.reduceSub,List.replicate,Z9,Z8,Z2,frz,Z0,gS,mC,k,fl,ll,PL.settle,frzAll,Nat.reduceAdd,Nat.reduceLT,Z7,Z6,cg,kN,aM,Z3,r,Z1,cn,bC,fl2,bB]
theorem zi(cell r:Int)(dd:fI 9=true)(hr:cell % 9=r)(mm:ga 2 1000000000000000000000000000000=true):bG [.int cell]=some (.sh (.int (if r=8 then cell / 9 % 2000000000000000000000000000000 - 1000000000000000000000000000000 else r - 4+(if 3 < r then 1 else 0)))):=by
 by_cases h:r=8
 ·simp only[bG,eM,Z4,Z5,fu,ft,aA,aZ,cN,ae,aa,a_,ce,fm,Nat.sub_self,List.replicate,Z9,Z8,Z2,Sl.isBr,pC,bV,eC,look,Sl.val,ja,Z0,Int.reduceLT,hr,Z1,fg,bv,eq_true h,aM,ba,jb,Int.reducePow,Int.reduceNeg,Int.reduceLE,and_self,Int.reduceToNat,gM,eL,cE,mm,Int.reduceMul,i6,aO,dd,bO,ad,fB,Cm.i,Cm.s,ah,wN,aG,cn,bC,cS,bB]
 ·by_cases h3:3 < r
  ·simp only[bG,eM,Z4,Z5,fu,ft,aA,aZ,cN,ae,aa,a_,ce,fm,Nat.sub_self,List.replicate,Z9,Z8,Z2,Sl.isBr,pC,bV,eC,look,Sl.val,ja,Z0,Int.reduceLT,hr,Z1,fg,bv,h,aM,ba,jb,Int.reducePow,Int.reduceNeg,Int.reduceLE,and_self,Int.reduceToNat,gM,eL,cE,Int.reduceMul,i6,aO,bO,ad,fB,Cm.i,Cm.s,ah,wN,aG,h3,be,cn,bC,cS,bB]
  ·simp only[bG,eM,Z4,Z5,fu,ft,aA,aZ,cN,ae,aa,a_,ce,fm,Nat.sub_self,List.replicate,Z9,Z8,Z2,Sl.isBr,pC,bV,eC,look,Sl.val,ja,Z0,Int.reduceLT,hr,Z1,fg,bv,h,aM,ba,jb,Int.reducePow,Int.reduceNeg,Int.reduceLE,and_self,Int.reduceToNat,gM,eL,cE,Int.reduceMul,i6,aO,bO,ad,fB,Cm.i,Cm.s,ah,wN,aG,h3,be,cn,bC,cS,bB]
theorem rq(cell:Int):∃z:Int,bG [.int cell]=some (.sh (.int z))∧z.natAbs < 2 ^ 100:=by
 have m0:=Int.emod_nonneg cell (show(9:Int)≠0 by decide)
 have m1:=wd cell (show(0:Int) < 9 by decide)
 have n0:=Int.emod_nonneg (cell / 9) (show(2000000000000000000000000000000:Int)≠0 by decide)
 have n1:=wd (cell / 9) (show(0:Int) < 2000000000000000000000000000000 by decide)
 refine⟨_,zi cell _ (by decide) rfl (kW (by decide) (by decide)),?_⟩
 generalize cell / 9 % 2000000000000000000000000000000=y at n0 n1
 generalize cell % 9=r at m0 m1
 split
 ·omega
 ·split <;> omega
theorem ln(x0:Sl):∀(c:List Pc) (st:List Pc) (a b:Sl),st.length+c.length≤100000→NailsOk st→NailsOk c→∃a' b',cw cO bF (c.map aj) [x0,.ow (st.reverse.map aj),a,b]=some ([x0,.ow ((c.foldl NH.stp st).reverse.map aj),a',b'],.nx)
 |[],st,a,b,_,_,_=>⟨a,b,rfl⟩
 |p::c,st,a,b,h,hs,hc=>by
  have step:∃a' b',(cO (aj p) [x0,.ow (st.reverse.map aj),a,b]).bind bF=some ([x0,.ow ((NH.stp st p).reverse.map aj),a',b'],.nx):=by
   have e0:=kX hs.reverse
   cases st with
   |nil=>
    simp only[List.reverse_nil,fm]at e0
    by_cases z:p.2=0
    ·simp only[cO,g_,aj,z,Z4,Z5,Nat.reduceAdd,eG,aD,List.reverse_nil,fm,Nat.reduceLT,Z7,Z6,Z0,g9,List.isEmpty_nil,bF,kH,fg,aA,aZ,eR,cN,ae,aa,Z3,Z2,Sl.isBr,cG,bu,Nat.reduceLeDiff,eC,look,Sl.val,e0,Z1,iI,pC,gr,fU,eL,cE,mM,au,jL,aG,PL.settle,frz,frzAll,aO,Nat.reduceSub,cg,bb,ee,aH,bv,Z8,NH.stp,bB]
     exact⟨_,_,rfl⟩
    ·simp only[cO,g_,aj,Z4,Z5,Nat.reduceAdd,eG,aD,List.reverse_nil,fm,Nat.reduceLT,Z7,Z6,Z0,g9,List.isEmpty_nil,bF,kH,fg,aA,aZ,eR,cN,ae,aa,Z3,Z2,Sl.isBr,cG,bu,Nat.reduceLeDiff,eC,look,Sl.val,e0,Z1,iI,pC,gr,fU,eL,cE,mM,au,jL,aG,PL.settle,frz,frzAll,aO,Nat.reduceSub,cg,bb,ee,aH,bv,z,Z8,NH.stp,bB]
     exact⟨_,_,rfl⟩
   |cons q st=>
    have lb:st.length < 1000000∧st.length+1 < 1000000:=by simp at h;omega
    simp only[ud,oz,ce,fm]at e0
    have et:∀ds,cO (aj p) [x0,.ow ds,a,b]=some [x0,.ow ds,.sh (.str ⟨#[p.1]⟩),.sh (.int p.2)]:=fun _=>rfl
    rw[et,Option.bind_some]
    by_cases e:q.1=p.1
    ·by_cases z:q.2+p.2=0
     ·simp only[bF,aA,aZ,eR,cN,ae,aa,ud,oz,ce,fm,Z3,Z2,Sl.isBr,cG,bu,Z0,Z5,Nat.reduceLeDiff,kH,eC,look,Sl.val,e0,List.append_eq_nil_iff,reduceCtorEq,and_false,Z1,iI,pC,gr,fU,eL,cE,fg,mM,hJ,au,jL,aG,PL.settle,frz,frzAll,aO,cg,bb,ee,aH,NH.stp,bB]
      simp only[aj,e,iX,Z1,Z0,Z3,Z2,hW,List.dropLast_concat,Z7,Z6,jB,o9,Int.add_comm p.2 q.2,z,Z4,Z5,Nat.reduceAdd,Nat.reduceLT,bv,Nat.reduceLeDiff,bB]
      simp[aj]
     ·simp only[bF,aA,aZ,eR,cN,ae,aa,ud,oz,ce,fm,Z3,Z2,Sl.isBr,cG,bu,Z0,Z5,Nat.reduceLeDiff,kH,eC,look,Sl.val,e0,List.append_eq_nil_iff,reduceCtorEq,and_false,Z1,iI,pC,gr,fU,eL,cE,fg,mM,hJ,au,jL,aG,PL.settle,frz,frzAll,aO,cg,bb,ee,aH,NH.stp,bB]
      simp only[aj,e,iX,Z1,Z0,Z3,Z2,hW,List.dropLast_concat,Z7,Z6,jB,o9,Int.add_comm p.2 q.2,Z4,Z5,Nat.reduceAdd,Nat.reduceLT,bv,z,Nat.reduceLeDiff,eQ,List.length_reverse,lb,bB]
      simp[aj]
    ·by_cases z:p.2=0
     ·simp only[bF,aA,aZ,eR,cN,ae,aa,ud,oz,ce,fm,Z3,Z2,Sl.isBr,cG,bu,Z0,Z5,Nat.reduceLeDiff,kH,eC,look,Sl.val,e0,List.append_eq_nil_iff,reduceCtorEq,and_false,Z1,iI,pC,gr,fU,eL,cE,fg,mM,hJ,au,jL,aG,PL.settle,frz,frzAll,aO,cg,bb,ee,aH,NH.stp,bB]
      simp only[aj,z,iX,Z1,Z0,Z3,Z2,hW,m6,e,List.dropLast_concat,Z7,Z6,jB,o9,Z4,Z5,Nat.reduceAdd,Nat.reduceLT,bv,Nat.reduceLeDiff,bB]
      simp[aj]
     ·simp only[bF,aA,aZ,eR,cN,ae,aa,ud,oz,ce,fm,Z3,Z2,Sl.isBr,cG,bu,Z0,Z5,Nat.reduceLeDiff,kH,eC,look,Sl.val,e0,List.append_eq_nil_iff,reduceCtorEq,and_false,Z1,iI,pC,gr,fU,eL,cE,fg,mM,hJ,au,jL,aG,PL.settle,frz,frzAll,aO,cg,bb,ee,aH,NH.stp,bB]
      simp only[aj,iX,Z1,Z0,Z3,Z2,hW,m6,e,List.dropLast_concat,Z7,Z6,vn,eQ,List.length_reverse,Z4,Z5,bv,z,Nat.reduceAdd,Nat.reduceLeDiff,lb,bB]
      simp[aj]
  obtain⟨a',b',e⟩:=step
  have ih:=ln x0 c (NH.stp st p) a' b' (by have:=NH.qo st p;simp at h;omega) (hs.stp (hc p (ir ..))) fun q hq=>hc q (g6 _ hq)
  obtain⟨a2,b2,e2⟩:=ih
  refine⟨a2,b2,?_⟩
  rw[ce,cw,e]
  exact e2
theorem lq(c:List Pc)(h:c.length≤100000)(hN:NailsOk c):bS [.list (c.map aj)]=some (.ow ((NH.short c).map aj)):=by
 obtain⟨a,b,e⟩:=ln (.sh (.list (c.map aj))) c [] .no .no (by simpa using h) pJ hN
 simp only[List.reverse_nil,fm]at e
 simp only[bS,eM,Z4,Z5,fu,h7,aA,au,cG,bu,a_,ce,fm,Nat.reduceSub,List.replicate,Z9,Z8,Z0,Nat.reduceLeDiff,PL.settle,frz,frzAll,Nat.reduceAdd,Nat.reduceLT,Z7,Z6,eS,aW,aa,aM,Z2,e,Z3,Z1,cn,bC,dS,Option.some.injEq,bB]
 rfl
def fR(a:Nat):Str:=⟨#[a]⟩
theorem zj{a b:Nat}(h:fR a=fR b):a=b:=by
 simp[fR]at h;exact h
theorem Bs{a b:Nat}(h:a≤b):rL (fR a) (fR b)=true:=by
 have:[a]≤[b]:=by
  rcases Nat.lt_or_ge a b with k |k
  ·exact List.le_of_lt (List.Lex.rel k)
  ·rw[Nat.le_antisymm h k];exact List.le_refl _
 exact decide_eq_true this
theorem Bt(ks:List Str)(x y:Str):y∈zU ks x↔y∈ks∨y=x:=by
 unfold zU
 split
 ·rename_i h
  exact⟨.inl,fun z=>z.elim id fun e=>e▸h⟩
 ·simp
theorem xu{ks:List Str}(h:ks.Nodup)(x:Str):(zU ks x).Nodup:=by
 unfold zU
 split
 ·exact h
 ·rename_i k
  rw[Zbh]
  refine⟨h,by simp,fun a ha b hb=>?_⟩
  rw[Zaf.mp hb]
  exact fun e=>k (e▸ha)
theorem rz:∀(ss ks:List Str),ks.Nodup→(ss.foldl zU ks).Nodup∧∀y,y∈ss.foldl zU ks↔y∈ks∨y∈ss
 |[],ks,h=>⟨h,fun y=>by simp⟩
 |s::ss,ks,h=>by
  obtain⟨a,b⟩:=rz ss (zU ks s) (xu h s)
  refine⟨a,fun y=>?_⟩
  rw[List.foldl_cons,b y,Bt,Zaq,or_assoc]
theorem xv(ss:List Str):(i7 ss).Nodup:=(rz ss [] List.nodup_nil).1
theorem Bu(ss:List Str)(y:Str):y∈i7 ss↔y∈ss:=by
 rw[i7,(rz ss [] List.nodup_nil).2 y];simp
def cb(w:List Nat):List Nat:=(List.range' 97 26).filter fun a=>decide (a∈w)
theorem inOrd_mem{w:List Nat}{a:Nat}:a∈cb w↔a∈List.range' 97 26∧a∈w:=by simp[cb]
theorem oh{α:Type}[DecidableEq α]:∀{l m:List α},l.Nodup→m.Nodup→(∀a,a∈l↔a∈m)→l.Perm m
 |[],m,_,_,h=>by
  have:m=[]:=by
   cases m with
   |nil=>rfl
   |cons b m=>exact absurd ((h b).mpr (by simp)) (by simp)
  rw[this]
 |a::l,m,hl,hm,h=>by
  have ha:a∈m:=(h a).mp (by simp)
  have hl':=List.nodup_cons.mp hl
  have p:=List.perm_cons_erase ha
  refine((oh hl'.2 (hm.erase a) fun b=>?_).cons a).trans p.symm
  rw[List.Nodup.mem_erase_iff hm,←h b,Zaq]
  exact⟨fun k=>⟨fun e=>hl'.1 (e▸k),.inr k⟩,fun k=>k.2.resolve_left k.1⟩
theorem vd{w:List Nat}(h:w.Nodup):(w.map fR).Nodup:=by
 rw[List.Nodup,List.pairwise_map]
 exact h.imp fun k e=>k (zj e)
theorem mK(w:List Nat):(cb w).Nodup:=List.Nodup.sublist List.filter_sublist (List.nodup_range' ..)
theorem rA(w:List Nat):((cb w).map fR).Pairwise fun a b=>rL a b=true:=by
 rw[List.pairwise_map]
 have h:(List.range' 97 26).Pairwise (· < ·):=List.pairwise_lt_range'
 exact(h.sublist List.filter_sublist).imp fun k=>Bs (jV k)
theorem ly{w:List Nat}(hw:∀a∈w,a∈List.range' 97 26):mE (i7 (w.map fR))=(cb w).map fR:=by
 refine(List.Perm.eq_of_pairwise (fun _ _ _ _ h k=>sJ h k) (rA w) (List.pairwise_mergeSort lS pD _) ?_).symm
 refine List.Perm.trans ?_ (List.mergeSort_perm _ rL).symm
 refine oh (vd (mK w)) (xv _) fun y=>?_
 rw[Bu,Zba,Zba]
 constructor
 ·rintro⟨a,ha,rfl⟩
  exact⟨a,(inOrd_mem.mp ha).2,rfl⟩
 ·rintro⟨a,ha,rfl⟩
  exact⟨a,inOrd_mem.mpr ⟨hw a ha,ha⟩,rfl⟩
theorem rB{w:List Nat}(hw:∀a∈w,a∈List.range' 97 26):(i7 (w.map fR)).length≤26:=by
 rw[←pF,ly hw,eQ]
 refine jK (List.length_filter_le _ _) (by simp)
def az(a:Nat):Prop:=97≤a∧a < 123
theorem jv{a:Nat}(h:az a):a∈List.range' 97 26:=List.mem_range'_1.mpr ⟨h.1,h.2⟩
def CordL(c:List Pc):Prop:=∀p∈c,az p.1∧p.2.natAbs < 2 ^ 100
theorem CordL.ok{c:List Pc}(h:CordL c):CordOk c:=fun p hp=>⟨by have:=(h p hp).1.2;omega,(h p hp).2⟩
theorem CordL.n{c:List Pc}(h:CordL c):NailsOk c:=h.ok.n
theorem CordL.append{c d:List Pc}(h:CordL c)(h':CordL d):CordL (c++d):=fun p hp=>(Zan.mp hp).elim (h p) (h' p)
theorem CordL.contr{c:List Pc}(h:CordL c):CordL (NH.contr c):=fun p hp=>by
 simp only[NH.contr,Zba,List.mem_reverse]at hp
 obtain⟨q,hq,rfl⟩:=hp
 exact⟨(h q hq).1,by simpa using(h q hq).2⟩
theorem CordL.cutL{c:List Pc}(h:CordL c)(lo hi:Option Int):CordL (cutL c lo hi):=fun p hp=>h p (kK hp)
theorem CordL.filter{c:List Pc}(h:CordL c)(P:Pc→Bool):CordL (c.filter P):=fun p hp=>h p (List.mem_filter.mp hp).1
theorem CordL.az{c:List Pc}(h:CordL c):∀a∈c.map (·.1),az a:=fun a ha=>by
 obtain⟨p,hp,rfl⟩:=Zba.mp ha
 exact(h p hp).1
def rC(cell step:Int)(k:Nat):Nat:=97+((cell+(k:Int)*step) % 26).toNat
theorem xx(cell step:Int)(k:Nat):az (rC cell step k):=by
 unfold rC az
 have m0:=Int.emod_nonneg (cell+(k:Int)*step) (show(26:Int)≠0 by decide)
 have m1:=wd (cell+(k:Int)*step) (show(0:Int) < 26 by decide)
 generalize (cell+(k:Int)*step) % 26=z at m0 m1
 omega
theorem pU(cell step:Int)(h1:0≤step)(h2:step≤100):∀(n lo:Nat) (x:Sl),bW eK aL dC (jd lo n) [x,.sh (.str "abcdefghijklmnopqrstuvwxyz"),.sh (.int cell),.sh (.int step)]=some (((List.range' lo n).map (rC cell step)).map fG)
 | 0,lo,x=>rfl
 |n+1,lo,x=>by
  have e:=pU cell step h1 h2 n (lo+1) (.sh (.int lo))
  have s:=zh cell step lo (qQ (by omega) (by omega))
  have t:eK (.int lo) [x,.sh (.str "abcdefghijklmnopqrstuvwxyz"),.sh (.int cell),.sh (.int step)]=some [.sh (.int lo),.sh (.str "abcdefghijklmnopqrstuvwxyz"),.sh (.int cell),.sh (.int step)]:=rfl
  rw[show((lo+1:Nat):Int)=(lo:Int)+1 by omega]at e
  rw[lQ,List.range'_succ,ce,ce]
  exact h9 t s e
theorem oM(cell:Int)(many:Nat)(hm:many≤1000):∃w:List Nat,cc [.int cell,.int many]=some (.ow (w.map fG))∧w.length=many∧∀a∈w,az a:=by
 have m0:=Int.emod_nonneg (cell / 26) (show(12:Int)≠0 by decide)
 have m1:=wd (cell / 26) (show(0:Int) < 12 by decide)
 obtain⟨i,hi⟩:∃i:Nat,cell / 26 % 12=i:=⟨(cell / 26 % 12).toNat,by omega⟩
 obtain⟨v,ev,v0,v1⟩:=Br i (by omega)
 have e:=pU cell v v0 v1 many 0 .no
 simp only[Int.natCast_zero]at e
 refine⟨(List.range' 0 many).map (rC cell v),xt cell many v i many _ (by decide) hi (by rw[iz,ev]) (by omega) (by omega) (by simp) e (lm _) (by simp;omega),by simp,fun a ha=>?_⟩
 obtain⟨k,_,rfl⟩:=Zba.mp ha
 exact xx cell v k
def CordW(w:List Nat)(c:List Pc):Prop:=∀p∈c,p.1∈w∧p.2.natAbs < 2 ^ 100
theorem CordW.append{w:List Nat}{c d:List Pc}(h:CordW w c)(h':CordW w d):CordW w (c++d):=fun p hp=>(Zan.mp hp).elim (h p) (h' p)
theorem CordW.contr{w:List Nat}{c:List Pc}(h:CordW w c):CordW w (NH.contr c):=fun p hp=>by
 simp only[NH.contr,Zba,List.mem_reverse]at hp
 obtain⟨q,hq,rfl⟩:=hp
 exact⟨(h q hq).1,by simpa using(h q hq).2⟩
theorem CordW.cutL{w:List Nat}{c:List Pc}(h:CordW w c)(lo hi:Option Int):CordW w (cutL c lo hi):=fun p hp=>h p (kK hp)
theorem pV{w:List Nat}:CordW w []:=fun _ z=>by cases z
theorem CordW.L{w:List Nat}{c:List Pc}(h:CordW w c)(a:∀y∈w,az y):CordL c:=fun p hp=>⟨a _ (h p hp).1,(h p hp).2⟩
theorem rD{w:List Nat}(h:0 < w.length)(z:Int):∃y,y∈w∧atI (w.map fG) (z % (w.length:Int))=some (.str ⟨#[y]⟩):=by
 have m0:=Int.emod_nonneg z (show(w.length:Int)≠0 by omega)
 have m1:=wd z (show(0:Int) < w.length by omega)
 obtain⟨i,hi⟩:∃i:Nat,z % (w.length:Int)=i:=⟨(z % (w.length:Int)).toNat,by omega⟩
 refine⟨w[i]'(by omega),List.getElem_mem _,?_⟩
 rw[hi,iz,we,wc (by omega)]
 rfl
theorem Dy(x0 x2 a6 a7 a5:Sl)(ws:List PyData)(c:List Pc)(aU n k:Int)(y:Nat)(r1 t r2 t' r3:Int)(hn:(ws.length:Int)=n)(hl:ws.length≤1000000)(n0:0 < n)(dn:fI n=true)(ey:atI ws (aU % n)=some (.str ⟨#[y]⟩))(h1:aU / n=r1)(ht:r1 % 7 - 3=t)(h2:r1 / 7=r2)(d7:fI 7=true)(d2:fI 2=true)(d4:fI 4000000000000=true)(m2:ga 2 1000000000000=true)(m4:ga 4 1000000000000=true)(lb:c.length < 1000000)
  (hw:(t= -3∧r2 % 2=1∧t'=r2 / 2 % 2000000000000 - 1000000000000∧r3=r2 / 4000000000000)∨(t= -3∧r2 % 2≠1∧t'=t∧r3=r2 / 2)∨(t≠ -3∧t'=t∧r3=r2)):
  (bi (.int k) [x0,.sh (.list ws),x2,.ow (c.map aj),.sh (.int aU),a5,a6,a7]).bind bj=some ([x0,.sh (.list ws),x2,.ow ((c++[((y,t'):Pc)]).map aj),.sh (.int r3),.sh (.int k),.sh (.str ⟨#[y]⟩),.sh (.int t')],.nx):=by
 have m:(c++[((y,t'):Pc)]).map aj=c.map aj++[PyData.tuple [.str ⟨#[y]⟩,.int t']]:=by simp[aj]
 rw[m]
 rcases hw with⟨h3,h4,rfl,rfl⟩ |⟨h3,h4,rfl,rfl⟩ |⟨h3,rfl,rfl⟩
 ·simp only[bi,aD,Z4,Z5,Nat.reduceAdd,Nat.reduceLT,Z7,Z6,bj,bV,ba,i6,fg,jb,Int.reducePow,Int.reduceNeg,Z0,aA,au,ae,aa,Z3,Z2,Sl.isBr,bO,ad,ah,Z1,ef,eC,look,Sl.val,ja,fU,eL,cE,be,hn,n0,ey,PL.settle,frz,frzAll,pC,aZ,eR,cN,iI,gr,Int.reduceLE,Int.reduceLT,and_self,Int.reduceToNat,gM,m2,Int.reduceMul,m4,aO,cg,bb,ee,aH,bu,dn,h1,ht,d7,h2,bv,eq_true h3,eq_true h4,d2,d4,Nat.reduceLeDiff,eQ,lb,bB]
 ·simp only[bi,aD,Z4,Z5,Nat.reduceAdd,Nat.reduceLT,Z7,Z6,bj,bV,ba,i6,fg,jb,Int.reducePow,Int.reduceNeg,Z0,aA,au,ae,aa,Z3,Z2,Sl.isBr,bO,ad,ah,Z1,ef,eC,look,Sl.val,ja,fU,eL,cE,be,hn,n0,ey,PL.settle,frz,frzAll,pC,aZ,eR,cN,iI,gr,Int.reduceLE,Int.reduceLT,and_self,Int.reduceToNat,gM,Int.reduceMul,aO,cg,bb,ee,aH,bu,dn,h1,ht,d7,h2,bv,eq_true h3,h4,d2,Nat.reduceLeDiff,eQ,lb,bB]
 ·simp only[bi,aD,Z4,Z5,Nat.reduceAdd,Nat.reduceLT,Z7,Z6,bj,bV,ba,i6,fg,jb,Int.reducePow,Int.reduceNeg,Z0,aA,au,ae,aa,Z3,Z2,Sl.isBr,bO,ad,ah,Z1,ef,eC,look,Sl.val,ja,fU,eL,cE,be,hn,n0,ey,PL.settle,frz,frzAll,pC,aZ,eR,cN,iI,gr,Int.reduceLE,Int.reduceLT,and_self,Int.reduceToNat,gM,Int.reduceMul,aO,cg,bb,ee,aH,bu,dn,h1,ht,d7,h2,bv,h3,Nat.reduceLeDiff,eQ,lb,bB]
theorem lz(w:List Nat)(hw:0 < w.length)(hw2:w.length≤1000)(hn:∀a∈w,az a)(x0 x2:Sl):∀(k lo:Nat) (aU:Int) (c:List Pc) (a5 a6 a7:Sl),c.length+k≤1000→CordW w c→
  ∃(rest':Int) (c':List Pc) (a5' a6' a7':Sl),cw bi bj (jd lo k) [x0,.sh (.list (w.map fG)),x2,.ow (c.map aj),.sh (.int aU),a5,a6,a7]=some ([x0,.sh (.list (w.map fG)),x2,.ow (c'.map aj),.sh (.int rest'),a5',a6',a7'],.nx)∧c'.length=c.length+k∧CordW w c'
 | 0,lo,aU,c,a5,a6,a7,_,hc=>⟨aU,c,a5,a6,a7,rfl,rfl,hc⟩
 |k+1,lo,aU,c,a5,a6,a7,hl,hc=>by
  obtain⟨y,hy,ey⟩:=rD hw aU
  have m0:=Int.emod_nonneg (aU / (w.length:Int)) (show(7:Int)≠0 by decide)
  have m1:=wd (aU / (w.length:Int)) (show(0:Int) < 7 by decide)
  obtain⟨t',r3,hd,hb⟩:∃t' r3:Int,((aU / (w.length:Int) % 7 - 3= -3∧aU / (w.length:Int) / 7 % 2=1∧t'=aU / (w.length:Int) / 7 / 2 % 2000000000000 - 1000000000000∧r3=aU / (w.length:Int) / 7 / 4000000000000)∨(aU / (w.length:Int) % 7 - 3= -3∧aU / (w.length:Int) / 7 % 2≠1∧t'=aU / (w.length:Int) % 7 - 3∧r3=aU / (w.length:Int) / 7 / 2)∨(aU / (w.length:Int) % 7 - 3≠ -3∧t'=aU / (w.length:Int) % 7 - 3∧r3=aU / (w.length:Int) / 7))∧t'.natAbs < 2 ^ 100:=by
   by_cases h3:aU / (w.length:Int) % 7 - 3= -3
   ·by_cases h4:aU / (w.length:Int) / 7 % 2=1
    ·refine⟨_,_,Or.inl ⟨h3,h4,rfl,rfl⟩,?_⟩
     have n0:=Int.emod_nonneg (aU / (w.length:Int) / 7 / 2) (show(2000000000000:Int)≠0 by decide)
     have n1:=wd (aU / (w.length:Int) / 7 / 2) (show(0:Int) < 2000000000000 by decide)
     generalize aU / (w.length:Int) / 7 / 2 % 2000000000000=z at n0 n1
     omega
    ·refine⟨_,_,Or.inr (Or.inl ⟨h3,h4,rfl,rfl⟩),?_⟩
     generalize aU / (w.length:Int) % 7=z at m0 m1
     omega
   ·refine⟨_,_,Or.inr (Or.inr ⟨h3,rfl,rfl⟩),?_⟩
    generalize aU / (w.length:Int) % 7=z at m0 m1
    omega
  have step:=Dy x0 x2 a6 a7 a5 (w.map fG) c aU w.length lo y _ _ _ t' r3 (by simp) (by rw[eQ];omega) (by omega) (sT (by omega) (by omega)) ey rfl rfl rfl (by decide) (by decide) (by decide) (kW (by decide) (by decide)) (kW (by decide) (by decide)) (by omega) hd
  obtain⟨r',c',b5,b6,b7,e,l,kk⟩:=lz w hw hw2 hn x0 x2 k (lo+1) r3 (c++[((y,t'):Pc)]) (.sh (.int lo)) (.sh (.str ⟨#[y]⟩)) (.sh (.int t')) (by simp;omega) (hc.append fun q hq=>by rw[Zaf.mp hq];exact⟨hy,hb⟩)
  refine⟨r',c',b5,b6,b7,?_,by rw[l];simp;omega,kk⟩
  rw[lQ,cw,step]
  exact e
theorem ET(cell M q r:Int)(ws C:List PyData)(n:Nat)(b4 b5 b6 b7:Sl)(m1:M+1≠0)(p1:0 < M+1)(dM:fI (M+1)=true)(hq:cell / (M+1)=q)(hr:cell % (M+1)=r)(o1: -1000000≤r)(o2:r≤1000000)(hn:r.toNat=n)(e:cw bi bj (jd 0 n) [.sh (.int cell),.sh (.list ws),.sh (.int M),.ow [],.sh (.int q),.no,.no,.no]=some ([.sh (.int cell),.sh (.list ws),.sh (.int M),.ow C,b4,b5,b6,b7],.nx))(fC:bH C=true):bK [.int cell,.list ws,.int M]=some (.ow C):=by
 simp only[bK,eM,Z4,Z5,Nat.reduceAdd,fu,fc,aA,au,cG,bu,a_,ce,fm,Nat.reduceSub,List.replicate,Z9,Z8,Z0,Nat.reduceLeDiff,PL.settle,frz,frzAll,Nat.reduceLT,Z7,Z6,ae,aa,Sl.isBr,pC,aG,look,Sl.val,eL,cE,ba,eC,ja,eS,nJ,ad,bV,ah,Z1,aM,Z2,Z3,dM,hq,p1,hr,be,o1,o2,and_self,hn,e,cn,bC,fC,bB]
theorem rE(w:List Nat)(hw:0 < w.length)(hw2:w.length≤1000)(hn:∀a∈w,az a)(cell:Int)(most:Nat)(hm:most≤100):∃c:List Pc,bK [.int cell,.list (w.map fG),.int most]=some (.ow (c.map aj))∧c.length≤most∧CordW w c:=by
 have m0:=Int.emod_nonneg cell (show(most:Int)+1≠0 by omega)
 have m1:=wd cell (show(0:Int) < (most:Int)+1 by omega)
 obtain⟨n,hn'⟩:∃n:Nat,cell % ((most:Int)+1)=n:=⟨(cell % ((most:Int)+1)).toNat,by omega⟩
 obtain⟨r',c',b5,b6,b7,e,l,k⟩:=lz w hw hw2 hn (.sh (.int cell)) (.sh (.int most)) n 0 (cell / ((most:Int)+1)) [] .no .no .no (by simp;omega) pV
 simp only[fm,Int.natCast_zero]at e
 exact⟨c',ET cell most _ n _ _ n _ _ _ _ (by omega) (by omega) (sT (by omega) (by omega)) rfl hn' (by omega) (by omega) (by simp) e (dS _),by rw[l];simp;omega,k⟩
def cM:dN:=(aZ (iJ (cN (ae fg false (aa 9) (pC (.int 1)))) (cN (ae fg false (aa 9) (pC (.int 2)))))
 (au 4 (ae aG false (ae aG false (ae aG false (aa 4) (aa 7)) (ag aI (ad false (aa 4) ah))) (ag aI (ad false (aa 7) ah))))
 (aZ (cN (ae fg false (aa 9) (pC (.int 3))))
 (au 4 (ae aG false (ae aG false (aa 7) (aa 4)) (ag aI (ad false (aa 7) ah))))
 (aZ (cN (ae fg false (aa 9) (pC (.int 4))))
 (aA (au 10 (ae bV false (ae ba false (aa 6) (pC (.int 3001))) (ae aG false (bO ef (ad false (aa 4) ah)) (pC (.int 1)))))
 (au 4 (ae aG false (ae aG false (ae aG false (ae aG false (j5 false (aa 4) gQ (gR (aa 10))) (aa 8)) (cG (aH (ee (aH (ae fU false (ae fU false (aa 7) (pC (.int 0))) (pC (.int 0))) (aH (pC (.int 0)) bu))) bu))) (ag aI (ad false (aa 8) ah))) (j5 false (aa 4) (gR (aa 10)) gQ))))
 (aZ (cN (ae fg false (aa 9) (pC (.int 5))))
 (au 4 (ae aG false (ae aG false (ae aG false (ae aG false (aa 4) (aa 8)) (aa 7)) (ag aI (ad false (aa 8) ah))) (ag aI (ad false (aa 7) ah))))
 (au 4 (ae aG false (aa 4) (aa 7)))))))
section
variable (x0 x1 x2 x3 x5 x10:Sl) (cell way:Int) (c:List Pc) (p o:Pc) (bc bp bo:List Pc) (hl:c.length≤10000) (hbc:bc.length≤10000) (hbp:bp.length≤1) (hbo:bo.length≤1) (e1:aI [.list (c.map aj)]=some (.ow (bc.map aj))) (e2:aI [.list ([p].map aj)]=some (.ow (bp.map aj))) (e3:aI [.list ([o].map aj)]=some (.ow (bo.map aj)))
include hl hbc hbp hbo e1 e2 e3
theorem Bv(h:way=1∨way=2):cM [x0,x1,x2,x3,.ow (c.map aj),x5,.sh (.int cell),.ow ([p].map aj),.ow ([o].map aj),.sh (.int way),x10]=some ([x0,x1,x2,x3,.ow ((c++[p]++bc++bp).map aj),x5,.sh (.int cell),.ow ([p].map aj),.ow ([o].map aj),.sh (.int way),x10],.nx):=by
 have l1:c.length+[p].length≤1000000:=by simp;omega
 have l2:(c++[p]).length+bc.length≤1000000:=by simp;omega
 have l3:(c++[p]++bc).length+bp.length≤1000000:=by simp;omega
 generalize hP:[p]=P at *
 rcases h with h |h
 ·subst h
  simp only[cM,aZ,iJ,cN,ae,aa,ce,fm,Z3,Z2,Sl.isBr,pC,fg,eC,look,Sl.val,Z0,bv,Z1,Int.reduceEq,au,aG,eL,cE,ag,ad,ah,PL.settle,frz,frzAll,aA,ba,ja,bO,ef,bV,j5,gQ,gR,cG,aH,ee,fU,bu,mM,eQ,l1,←oz,be,e1,l2,e2,l3,Z4,Z5,Nat.reduceAdd,Nat.reduceLT,Z7,Z6,Nat.reduceLeDiff,bB]
 ·subst h
  simp only[cM,aZ,iJ,cN,ae,aa,ce,fm,Z3,Z2,Sl.isBr,pC,fg,eC,look,Sl.val,Z0,bv,Int.reduceEq,Z1,au,aG,eL,cE,ag,ad,ah,PL.settle,frz,frzAll,aA,ba,ja,bO,ef,bV,j5,gQ,gR,cG,aH,ee,fU,bu,mM,eQ,l1,←oz,be,e1,l2,e2,l3,Z4,Z5,Nat.reduceAdd,Nat.reduceLT,Z7,Z6,Nat.reduceLeDiff,bB]
theorem Dz(h:way=3):cM [x0,x1,x2,x3,.ow (c.map aj),x5,.sh (.int cell),.ow ([p].map aj),.ow ([o].map aj),.sh (.int way),x10]=some ([x0,x1,x2,x3,.ow (([p]++c++bp).map aj),x5,.sh (.int cell),.ow ([p].map aj),.ow ([o].map aj),.sh (.int way),x10],.nx):=by
 have l1:[p].length+c.length≤1000000:=by simp;omega
 have l2:([p]++c).length+bp.length≤1000000:=by simp;omega
 generalize hP:[p]=P at *
 subst h
 simp only[cM,aZ,iJ,cN,ae,aa,ce,fm,Z3,Z2,Sl.isBr,pC,fg,eC,look,Sl.val,Z0,bv,Int.reduceEq,Z1,au,aG,eL,cE,ag,ad,ah,PL.settle,frz,frzAll,aA,ba,ja,bO,ef,bV,j5,gQ,gR,cG,aH,ee,fU,bu,mM,eQ,←oz,l1,be,e2,l2,Z4,Z5,Nat.reduceAdd,Nat.reduceLT,Z7,Z6,Nat.reduceLeDiff,bB]
theorem DA(h:way=5):cM [x0,x1,x2,x3,.ow (c.map aj),x5,.sh (.int cell),.ow ([p].map aj),.ow ([o].map aj),.sh (.int way),x10]=some ([x0,x1,x2,x3,.ow ((c++[o]++[p]++bo++bp).map aj),x5,.sh (.int cell),.ow ([p].map aj),.ow ([o].map aj),.sh (.int way),x10],.nx):=by
 have l1:c.length+[o].length≤1000000:=by simp;omega
 have l2:(c++[o]).length+[p].length≤1000000:=by simp;omega
 have l3:(c++[o]++[p]).length+bo.length≤1000000:=by simp;omega
 have l4:(c++[o]++[p]++bo).length+bp.length≤1000000:=by simp;omega
 generalize hP:[p]=P at *
 generalize hO:[o]=O at *
 subst h
 simp only[cM,aZ,iJ,cN,ae,aa,Z3,Z2,Sl.isBr,pC,fg,eC,look,Sl.val,Z0,bv,Int.reduceEq,Z1,au,aG,eL,cE,ag,ad,ah,PL.settle,frz,frzAll,aA,ba,ja,bO,ef,bV,j5,gQ,gR,cG,aH,ee,fU,bu,mM,eQ,←oz,l1,l2,be,e3,l3,e2,l4,Z4,Z5,Nat.reduceAdd,Nat.reduceLT,Z7,Z6,bB]
theorem DB(h1:way≠1)(h2:way≠2)(h3:way≠3)(h4:way≠4)(h5:way≠5):cM [x0,x1,x2,x3,.ow (c.map aj),x5,.sh (.int cell),.ow ([p].map aj),.ow ([o].map aj),.sh (.int way),x10]=some ([x0,x1,x2,x3,.ow ((c++[p]).map aj),x5,.sh (.int cell),.ow ([p].map aj),.ow ([o].map aj),.sh (.int way),x10],.nx):=by
 have l1:c.length+[p].length≤1000000:=by simp;omega
 generalize hP:[p]=P at *
 simp only[cM,aZ,iJ,cN,ae,aa,ce,fm,Z3,Z2,Sl.isBr,pC,fg,eC,look,Sl.val,Z0,bv,h1,Z1,h2,au,aG,eL,cE,ag,ad,ah,PL.settle,frz,frzAll,aA,ba,ja,bO,ef,bV,j5,gQ,gR,cG,aH,ee,fU,bu,mM,eQ,l1,←oz,be,h3,h4,h5,Z4,Z5,Nat.reduceLeDiff,Nat.reduceAdd,Nat.reduceLT,Z7,Z6,bB]
theorem DC(q n:Int)(d:fI 3001=true)(hn:(c.length:Int)+1=n)(n0:0 < n)(hq:cell / 3001 % n=q)(h:way=4):∃s10,cM [x0,x1,x2,x3,.ow (c.map aj),x5,.sh (.int cell),.ow ([p].map aj),.ow ([o].map aj),.sh (.int way),x10]=some ([x0,x1,x2,x3,.ow ((cutL c none (some q)++[o]++[((p.1,0):Pc)]++bo++cutL c (some q) none).map aj),x5,.sh (.int cell),.ow ([p].map aj),.ow ([o].map aj),.sh (.int way),s10],.nx):=by
 have k1:=kJ c none (some q)
 have k2:=kJ c (some q) none
 have lc:c.length≤1000000:=by omega
 have l1:(cutL c none (some q)).length+[o].length≤1000000:=by simp;omega
 have l2:(cutL c none (some q)++[o]).length+1≤1000000:=by simp;omega
 have l3:(cutL c none (some q)++[o]++[((p.1,0):Pc)]).length+bo.length≤1000000:=by simp;omega
 have l4:(cutL c none (some q)++[o]++[((p.1,0):Pc)]++bo).length+(cutL c (some q) none).length≤1000000:=by simp;omega
 have m:∀X:List Pc,X.map aj++[PyData.tuple [.str ⟨#[p.1]⟩,.int 0]]=(X++[((p.1,0):Pc)]).map aj:=fun X=>by simp[aj]
 have hp:[p].map aj=[PyData.tuple [.str ⟨#[p.1]⟩,.int p.2]]:=rfl
 generalize hO:[o]=O at *
 rw[hp]at e2 ⊢
 subst h
 refine⟨.sh (.int q),?_⟩
 simp only[cM,aZ,iJ,cN,ae,aa,Z3,Z2,Sl.isBr,pC,fg,eC,look,Sl.val,Z0,bv,Int.reduceEq,Z1,au,aG,eL,cE,ag,ad,ah,PL.settle,frz,frzAll,aA,ba,ja,bO,ef,bV,j5,gQ,gR,cG,aH,ee,fU,bu,mM,eQ,Z4,Z5,Nat.reduceLeDiff,Z9,Z8,d,be,hn,n0,hq,Nat.reduceAdd,Nat.reduceLT,Z7,Z6,sv,dS,Bool.or_true,l1,←oz,iX,l2,m,e3,l3,l4,bB]
end
theorem EU(x1:Sl)(sc ws:List PyData)(most k z cell u t n wy:Int)(y1 y2:Nat)(c:List Pc)(a5 a6 a7 a8 a9 a10:Sl)(ea:aB [.list sc,.int k]=some (.sh (.int z)))(es:bE [.int (z+k),.int k]=some (.sh (.int cell)))(eu:bE [.int z,.int (50+k)]=some (.sh (.int u)))(et:bG [.int u]=some (.sh (.int t)))(hn:(ws.length:Int)=n)(hl:ws.length≤1000000)(n0:0 < n)(d7:fI 7=true)(d53:fI 53=true)(d401:fI 401=true)(d2:fI 2=true)(i1:atI ws (cell / 7 % n)=some (.str ⟨#[y1]⟩))(i2:atI ws (cell / 53 % n)=some (.str ⟨#[y2]⟩))(lc:c.length≤1000000)(L:Int)(hL:(c.length:Int)=L)(hw:(most / 2 - 4 < L∧wy=0)∨(¬most / 2 - 4 < L∧wy=cell % 7)):
  (bQ (.int k) [.sh (.list sc),x1,.sh (.list ws),.sh (.int most),.ow (c.map aj),a5,a6,a7,a8,a9,a10]).bind bR=cM [.sh (.list sc),x1,.sh (.list ws),.sh (.int most),.ow (c.map aj),.sh (.int k),.sh (.int cell),.ow ([((y1,t):Pc)].map aj),.ow ([((y2,1+cell / 401 % 3):Pc)].map aj),.sh (.int wy),a10]:=by
 have gl:bR=aA (au 6 (ag bE (ad false (ae aG false (ag aB (ad false (aa 0) (ad false (aa 5) ah))) (aa 5)) (ad false (aa 5) ah))))
  (aA (au 7 (cG (aH (ee (aH (ae fU false (aa 2) (ae bV false (ae ba false (aa 6) (pC (.int 7))) (bO ef (ad false (aa 2) ah)))) (aH (ag bG (ad false (ag bE (ad false (ag aB (ad false (aa 0) (ad false (aa 5) ah))) (ad false (ae aG false (pC (.int 50)) (aa 5)) ah))) ah)) bu))) bu)))
  (aA (au 8 (cG (aH (ee (aH (ae fU false (aa 2) (ae bV false (ae ba false (aa 6) (pC (.int 53))) (bO ef (ad false (aa 2) ah)))) (aH (ae aG false (pC (.int 1)) (ae bV false (ae ba false (aa 6) (pC (.int 401))) (pC (.int 3)))) bu))) bu)))
  (aA (au 9 (ae bV false (aa 6) (pC (.int 7))))
  (aA (aZ (cN (ae (eC (fB .gt)) false (bO ef (ad false (aa 4) ah)) (ae i6 false (ae ba false (aa 3) (pC (.int 2))) (pC (.int 4))))) (au 9 (pC (.int 0))) aO) cM)))):=rfl
 have tt:bQ (.int k) [.sh (.list sc),x1,.sh (.list ws),.sh (.int most),.ow (c.map aj),a5,a6,a7,a8,a9,a10]=some [.sh (.list sc),x1,.sh (.list ws),.sh (.int most),.ow (c.map aj),.sh (.int k),a6,a7,a8,a9,a10]:=rfl
 have s6:au 6 (ag bE (ad false (ae aG false (ag aB (ad false (aa 0) (ad false (aa 5) ah))) (aa 5)) (ad false (aa 5) ah))) [.sh (.list sc),x1,.sh (.list ws),.sh (.int most),.ow (c.map aj),.sh (.int k),a6,a7,a8,a9,a10]=some ([.sh (.list sc),x1,.sh (.list ws),.sh (.int most),.ow (c.map aj),.sh (.int k),.sh (.int cell),a7,a8,a9,a10],.nx):=by
  simp only[au,ag,ad,ae,aa,Z2,Sl.isBr,ah,Z1,Z0,Z3,be,look,Sl.val,ea,aG,eL,cE,es,PL.settle,frz,frzAll,Z4,Z5,Nat.reduceAdd,Nat.reduceLT,Z7,Z6,bB]
 have s7:au 7 (cG (aH (ee (aH (ae fU false (aa 2) (ae bV false (ae ba false (aa 6) (pC (.int 7))) (bO ef (ad false (aa 2) ah)))) (aH (ag bG (ad false (ag bE (ad false (ag aB (ad false (aa 0) (ad false (aa 5) ah))) (ad false (ae aG false (pC (.int 50)) (aa 5)) ah))) ah)) bu))) bu)) [.sh (.list sc),x1,.sh (.list ws),.sh (.int most),.ow (c.map aj),.sh (.int k),.sh (.int cell),a7,a8,a9,a10]=some ([.sh (.list sc),x1,.sh (.list ws),.sh (.int most),.ow (c.map aj),.sh (.int k),.sh (.int cell),.ow ([((y1,t):Pc)].map aj),a8,a9,a10],.nx):=by
  simp only[au,cG,aH,ee,ae,aa,Z3,Z2,Sl.isBr,pC,ba,eC,look,Sl.val,ja,Z0,bO,ad,ah,Z1,ef,bV,fU,eL,cE,d7,be,hn,n0,i1,frz,ag,aG,bu,ea,eu,et,Z4,Z5,Nat.reduceAdd,Nat.reduceLeDiff,PL.settle,frzAll,Nat.reduceLT,Z7,Z6,ce,aj,fm,bB]
 have s8:au 8 (cG (aH (ee (aH (ae fU false (aa 2) (ae bV false (ae ba false (aa 6) (pC (.int 53))) (bO ef (ad false (aa 2) ah)))) (aH (ae aG false (pC (.int 1)) (ae bV false (ae ba false (aa 6) (pC (.int 401))) (pC (.int 3)))) bu))) bu)) [.sh (.list sc),x1,.sh (.list ws),.sh (.int most),.ow (c.map aj),.sh (.int k),.sh (.int cell),.ow ([((y1,t):Pc)].map aj),a8,a9,a10]=some ([.sh (.list sc),x1,.sh (.list ws),.sh (.int most),.ow (c.map aj),.sh (.int k),.sh (.int cell),.ow ([((y1,t):Pc)].map aj),.ow ([((y2,1+cell / 401 % 3):Pc)].map aj),a9,a10],.nx):=by
  simp only[au,cG,aH,ee,ae,aa,ce,aj,fm,Z3,Z2,Sl.isBr,pC,ba,eC,look,Sl.val,ja,Z0,bO,ad,ah,Z1,ef,bV,fU,eL,cE,d53,be,hn,n0,i2,frz,aG,bu,d401,Int.reduceLT,Z4,Z5,Nat.reduceAdd,Nat.reduceLeDiff,PL.settle,frzAll,Nat.reduceLT,Z7,Z6,bB]
 have s9:au 9 (ae bV false (aa 6) (pC (.int 7))) [.sh (.list sc),x1,.sh (.list ws),.sh (.int most),.ow (c.map aj),.sh (.int k),.sh (.int cell),.ow ([((y1,t):Pc)].map aj),.ow ([((y2,1+cell / 401 % 3):Pc)].map aj),a9,a10]=some ([.sh (.list sc),x1,.sh (.list ws),.sh (.int most),.ow (c.map aj),.sh (.int k),.sh (.int cell),.ow ([((y1,t):Pc)].map aj),.ow ([((y2,1+cell / 401 % 3):Pc)].map aj),.sh (.int (cell % 7)),a10],.nx):=by
  simp only[au,ae,aa,ce,fm,Z3,Z2,Sl.isBr,pC,bV,eC,look,Sl.val,ja,Z0,Int.reduceLT,Z1,PL.settle,frz,frzAll,Z4,Z5,Nat.reduceAdd,Nat.reduceLT,Z7,Z6,bB]
 have si:(aZ (cN (ae (eC (fB .gt)) false (bO ef (ad false (aa 4) ah)) (ae i6 false (ae ba false (aa 3) (pC (.int 2))) (pC (.int 4))))) (au 9 (pC (.int 0))) aO) [.sh (.list sc),x1,.sh (.list ws),.sh (.int most),.ow (c.map aj),.sh (.int k),.sh (.int cell),.ow ([((y1,t):Pc)].map aj),.ow ([((y2,1+cell / 401 % 3):Pc)].map aj),.sh (.int (cell % 7)),a10]=some ([.sh (.list sc),x1,.sh (.list ws),.sh (.int most),.ow (c.map aj),.sh (.int k),.sh (.int cell),.ow ([((y1,t):Pc)].map aj),.ow ([((y2,1+cell / 401 % 3):Pc)].map aj),.sh (.int wy),a10],.nx):=by
  rcases hw with⟨h,rfl⟩ |⟨h,rfl⟩
  ·simp only[aZ,cN,ae,bO,ad,aa,ce,fm,Z3,Z2,Sl.isBr,ah,Z1,Z0,ef,be,look,Sl.val,eQ,hL,pC,ba,eC,ja,i6,fB,Cm.i,Cm.s,d2,h,au,PL.settle,frz,frzAll,aO,Z4,Z5,Nat.reduceAdd,Nat.reduceLT,Z7,Z6,bB]
  ·simp only[aZ,cN,ae,bO,ad,aa,ce,fm,Z3,Z2,Sl.isBr,ah,Z1,Z0,ef,be,look,Sl.val,eQ,hL,pC,ba,eC,ja,i6,fB,Cm.i,Cm.s,d2,h,au,PL.settle,frz,frzAll,aO,Z4,Z5,Nat.reduceAdd,Nat.reduceLT,Z7,Z6,bB]
 rw[tt,Option.bind_some,gl,aT s6,aT s7,aT s8,aT s9,aT si]
theorem tS(ns:List Int)(x1:Sl)(w:List Nat)(hw:0 < w.length)(hw2:w.length≤1000)(hn:∀a∈w,az a)(most:Nat)(hm:most≤100):∀(k lo:Nat) (c:List Pc) (a5 a6 a7 a8 a9 a10:Sl),lo+k≤1000→k≤50→c.length+k≤most+100→CordW w c→
  ∃(c':List Pc) (b5 b6 b7 b8 b9 b10:Sl),cw bQ bR (jd lo k) [.sh (.list (ns.map .int)),x1,.sh (.list (w.map fG)),.sh (.int most),.ow (c.map aj),a5,a6,a7,a8,a9,a10]=some ([.sh (.list (ns.map .int)),x1,.sh (.list (w.map fG)),.sh (.int most),.ow (c'.map aj),b5,b6,b7,b8,b9,b10],.nx)∧c'.length≤most+100∧CordW w c'
 | 0,lo,c,a5,a6,a7,a8,a9,a10,_,_,hc,kc=>⟨c,a5,a6,a7,a8,a9,a10,rfl,by omega,kc⟩
 |k+1,lo,c,a5,a6,a7,a8,a9,a10,hlo,hk,hc,kc=>by
  have ea:=jI ns lo
  obtain⟨cell,es⟩:=mJ (ns.getD lo 0+lo) lo (by omega) (by omega)
  obtain⟨u,eu⟩:=mJ (ns.getD lo 0) (50+lo) (by omega) (by omega)
  obtain⟨t,et,tb⟩:=rq u
  obtain⟨y1,h1,i1⟩:=rD hw (cell / 7)
  obtain⟨y2,h2,i2⟩:=rD hw (cell / 53)
  have e3m:=Int.emod_nonneg (cell / 401) (show(3:Int)≠0 by decide)
  have e3n:=wd (cell / 401) (show(0:Int) < 3 by decide)
  have kp:CordW w [((y1,t):Pc)]:=fun q hq=>by rw[Zaf.mp hq];exact⟨h1,tb⟩
  have kz:CordW w [((y1,0):Pc)]:=fun q hq=>by rw[Zaf.mp hq];exact⟨h1,by show(0:Int).natAbs < 2 ^ 100;decide⟩
  have ko:CordW w [((y2,1+cell / 401 % 3):Pc)]:=fun q hq=>by
   rw[Zaf.mp hq]
   refine⟨h2,?_⟩
   show(1+cell / 401 % 3).natAbs < 2 ^ 100
   generalize cell / 401 % 3=z at e3m e3n
   omega
  have bc:=ju c (by omega)
  have bp:=ju [((y1,t):Pc)] (by simp)
  have bo:=ju [((y2,1+cell / 401 % 3):Pc)] (by simp)
  have lbc:=NH.fz c
  have step:∃(c1:List Pc) (b6 b7 b8 b9 b10:Sl),(bQ (.int lo) [.sh (.list (ns.map .int)),x1,.sh (.list (w.map fG)),.sh (.int most),.ow (c.map aj),a5,a6,a7,a8,a9,a10]).bind bR=some ([.sh (.list (ns.map .int)),x1,.sh (.list (w.map fG)),.sh (.int most),.ow (c1.map aj),.sh (.int lo),b6,b7,b8,b9,b10],.nx)∧c1.length+k≤most+100∧CordW w c1:=by
   obtain⟨wy,hwy,small⟩:∃wy:Int,(((most:Int) / 2 - 4 < (c.length:Int)∧wy=0)∨(¬(most:Int) / 2 - 4 < (c.length:Int)∧wy=cell % 7))∧(wy≠0→2*c.length+8≤most):=by
    by_cases b:(most:Int) / 2 - 4 < (c.length:Int)
    ·exact⟨0,Or.inl ⟨b,rfl⟩,fun z=>absurd rfl z⟩
    ·exact⟨_,Or.inr ⟨b,rfl⟩,fun _=>by omega⟩
   have sa:=EU x1 (ns.map .int) (w.map fG) most lo (ns.getD lo 0) cell u t w.length wy y1 y2 c a5 a6 a7 a8 a9 a10 ea es eu et (by simp) (by rw[eQ];omega) (by omega) (by decide) (by decide) (by decide) (by decide) i1 i2 (by omega) c.length rfl hwy
   rw[sa]
   by_cases w12:wy=1∨wy=2
   ·have:=small (by omega)
    exact⟨_,_,_,_,_,_,Bv _ _ _ _ _ _ cell wy c _ _ _ _ _ (by omega) (by omega) (by simp[NH.contr]) (by simp[NH.contr]) bc bp bo w12,by simp[NH.fz];omega,((kc.append kp).append kc.contr).append kp.contr⟩
   ·by_cases w3:wy=3
    ·have:=small (by omega)
     exact⟨_,_,_,_,_,_,Dz _ _ _ _ _ _ cell wy c _ _ _ _ _ (by omega) (by omega) (by simp[NH.contr]) (by simp[NH.contr]) bc bp bo w3,by simp[NH.fz];omega,(kp.append kc).append kp.contr⟩
    ·by_cases w4:wy=4
     ·have:=small (by omega)
      obtain⟨s10,e4⟩:=DC (.sh (.list (ns.map .int))) x1 (.sh (.list (w.map fG))) (.sh (.int most)) (.sh (.int lo)) a10 cell wy c (y1,t) (y2,1+cell / 401 % 3) _ _ _ (by omega) (by omega) (by simp[NH.contr]) (by simp[NH.contr]) bc bp bo _ _ (by decide) rfl (by omega) rfl w4
      have k1:=kJ c none (some (cell / 3001 % ((c.length:Int)+1)))
      have k2:=kJ c (some (cell / 3001 % ((c.length:Int)+1))) none
      exact⟨_,_,_,_,_,_,e4,by simp[NH.fz];omega,((((kc.cutL _ _).append ko).append kz).append ko.contr).append (kc.cutL _ _)⟩
     ·by_cases w5:wy=5
      ·have:=small (by omega)
       exact⟨_,_,_,_,_,_,DA _ _ _ _ _ _ cell wy c _ _ _ _ _ (by omega) (by omega) (by simp[NH.contr]) (by simp[NH.contr]) bc bp bo w5,by simp[NH.fz];omega,(((kc.append ko).append kp).append ko.contr).append kp.contr⟩
      ·exact⟨_,_,_,_,_,_,DB _ _ _ _ _ _ cell wy c _ _ _ _ _ (by omega) (by omega) (by simp[NH.contr]) (by simp[NH.contr]) bc bp bo (by omega) (by omega) w3 w4 w5,by simp;omega,kc.append kp⟩
  obtain⟨c1,b6,b7,b8,b9,b10,e,l1,k1⟩:=step
  obtain⟨c',d5,d6,d7,d8,d9,d10,e2,l2,k2⟩:=tS ns x1 w hw hw2 hn most hm k (lo+1) c1 (.sh (.int lo)) b6 b7 b8 b9 b10 (by omega) (by omega) l1 k1
  refine⟨c',d5,d6,d7,d8,d9,d10,?_,l2,k2⟩
  rw[lQ,cw,e]
  exact e2
theorem zk(x0 x2 x3 x4:Sl)(f:Int)(ob1: -1000000≤f)(ob2:f+8≤1000000):lP (ad false (aa 1) (ad false (ae aG false (aa 1) (pC (.int 8))) ah)) [x0,.sh (.int f),x2,x3,x4,.no,.no,.no,.no,.no,.no]=some (jd f 8,[x0,.sh (.int f),x2,x3,x4,.no,.no,.no,.no,.no,.no]):=by
 have l:(ad false (aa 1) (ad false (ae aG false (aa 1) (pC (.int 8))) ah)) [x0,.sh (.int f),x2,x3,x4,.no,.no,.no,.no,.no,.no]=some ([.sh (.int f),.sh (.int (f+8))],[x0,.sh (.int f),x2,x3,x4,.no,.no,.no,.no,.no,.no]):=by
  simp only[ad,aa,Z3,Z2,Sl.isBr,ae,pC,aG,look,Sl.val,eL,cE,Z0,ah,Z1,bB]
 unfold lP
 rw[l,Option.bind_some]
 show(if -1000000≤f∧f≤1000000∧ -1000000≤f+8∧f+8≤1000000 then some (jd f (f+8 - f).toNat,[x0,.sh (.int f),x2,x3,x4,.no,.no,.no,.no,.no,.no])else none)=_
 rw[if_pos ⟨ob1,by omega,by omega,ob2⟩,show(f+8 - f).toNat=8 by omega]
theorem EV(x0:PyData)(f M:Int)(ws C C2:List PyData)(b5 b6 b7 b8 b9 b10:Sl)(ob1: -1000000≤f)(ob2:f+8≤1000000)(lp:cw bQ bR (jd f 8) [.sh x0,.sh (.int f),.sh (.list ws),.sh (.int M),.ow [],.no,.no,.no,.no,.no,.no]=some ([.sh x0,.sh (.int f),.sh (.list ws),.sh (.int M),.ow C,b5,b6,b7,b8,b9,b10],.nx))(hc:uB C none (some M)=C2)(fC:bH C2=true):di [x0,.int f,.list ws,.int M]=some (.ow C2):=by
 have gl:gj=aA (au 4 (cG bu)) (aA (eS (lP (ad false (aa 1) (ad false (ae aG false (aa 1) (pC (.int 8))) ah))) bQ bR) (aM (j5 false (aa 4) gQ (gR (aa 3))))):=rfl
 have s4:au 4 (cG bu) [.sh x0,.sh (.int f),.sh (.list ws),.sh (.int M),.no,.no,.no,.no,.no,.no,.no]=some ([.sh x0,.sh (.int f),.sh (.list ws),.sh (.int M),.ow [],.no,.no,.no,.no,.no,.no],.nx):=by
  simp only[au,cG,bu,Z0,Z5,Nat.reduceLeDiff,PL.settle,frz,frzAll,Z4,Nat.reduceAdd,Nat.reduceLT,Z7,Z6,bB]
 have fo:eS (lP (ad false (aa 1) (ad false (ae aG false (aa 1) (pC (.int 8))) ah))) bQ bR [.sh x0,.sh (.int f),.sh (.list ws),.sh (.int M),.ow [],.no,.no,.no,.no,.no,.no]=some ([.sh x0,.sh (.int f),.sh (.list ws),.sh (.int M),.ow C,b5,b6,b7,b8,b9,b10],.nx):=by
  delta eS
  show Option.bind _ _=_
  rw[zk _ _ _ _ f ob1 ob2]
  exact lp
 have rt:aM (j5 false (aa 4) gQ (gR (aa 3))) [.sh x0,.sh (.int f),.sh (.list ws),.sh (.int M),.ow C,b5,b6,b7,b8,b9,b10]=some ([.sh x0,.sh (.int f),.sh (.list ws),.sh (.int M),.ow C,b5,b6,b7,b8,b9,b10],.rt (.ow C2)):=by
  simp only[aM,j5,aa,Z3,Z2,Sl.isBr,gQ,gR,look,Sl.val,eL,cE,Z0,mM,hc,bB]
 have g:gj [.sh x0,.sh (.int f),.sh (.list ws),.sh (.int M),.no,.no,.no,.no,.no,.no,.no]=some ([.sh x0,.sh (.int f),.sh (.list ws),.sh (.int M),.ow C,b5,b6,b7,b8,b9,b10],.rt (.ow C2)):=by
  rw[gl,aT s4,aT fo]
  exact rt
 simp only[di,eM,fu,a_,Z4,Z5,ce,fm,List.replicate,Z9,Z8,Nat.reduceAdd,Nat.reduceSub,g,Z0,cn,bC,fC,if_true,reduceIte]
theorem rF(ns:List Int)(w:List Nat)(hw:0 < w.length)(hw2:w.length≤1000)(hn:∀a∈w,az a)(first most:Nat)(hf:first≤100)(hm:most≤100):∃c:List Pc,di [.list (ns.map .int),.int first,.list (w.map fG),.int most]=some (.ow (c.map aj))∧c.length≤most∧CordW w c:=by
 obtain⟨c,b5,b6,b7,b8,b9,b10,e,l,k⟩:=tS ns (.sh (.int first)) w hw hw2 hn most hm 8 first [] .no .no .no .no .no .no (by omega) (by omega) (by simp) pV
 simp only[fm]at e
 refine⟨cutL c none (some (most:Int)),EV _ _ _ _ _ _ _ _ _ _ _ _ (by omega) (by omega) e (by rw[sv]) (dS _),?_,k.cutL _ _⟩
 have:=wK c (show(0:Int)≤(most:Int) by omega)
 omega
theorem Bw(x0:PyData)(f z M:Int)(ws C:List PyData)(ea:aB [x0,.int f]=some (.sh (.int z)))(h:¬(-1000000000000000000 < z∧z < 1000000000000000000))(e:bK [.int z,.list ws,.int M]=some (.ow C))(fC:bH C=true):bU [x0,.int f,.list ws,.int M]=some (.ow C):=by
 by_cases b1: -1000000000000000000 < z
 ·have b2:¬z < 1000000000000000000:=fun q=>h ⟨b1,q⟩
  simp only[bU,eM,Z4,Z5,Nat.reduceAdd,fu,fP,aA,au,ag,ad,aa,a_,ce,fm,Nat.reduceSub,List.replicate,Z9,Z8,Z2,Sl.isBr,ah,Z1,Z0,Z3,be,look,Sl.val,ea,PL.settle,frz,frzAll,Nat.reduceLT,Z7,Z6,aZ,dv,cN,gN,iI,ae,pC,jb,eC,ja,Int.reducePow,Int.reduceNeg,Int.reduceLE,Int.reduceLT,and_self,Int.reduceToNat,gr,Bool.or_false,fB,Cm.i,Cm.s,aM,aO,aG,eL,cE,b2,b1,e,cn,bC,fC,bB]
 ·simp only[bU,eM,Z4,Z5,Nat.reduceAdd,fu,fP,aA,au,ag,ad,aa,a_,ce,fm,Nat.reduceSub,List.replicate,Z9,Z8,Z2,Sl.isBr,ah,Z1,Z0,Z3,be,look,Sl.val,ea,PL.settle,frz,frzAll,Nat.reduceLT,Z7,Z6,aZ,dv,cN,gN,iI,ae,pC,jb,eC,ja,Int.reducePow,Int.reduceNeg,Int.reduceLE,Int.reduceLT,and_self,Int.reduceToNat,gr,Bool.or_false,fB,Cm.i,Cm.s,aM,aO,aG,eL,cE,b1,e,cn,bC,fC,bB]
theorem Bx(x0:PyData)(f z M:Int)(ws C:List PyData)(ea:aB [x0,.int f]=some (.sh (.int z)))(h1: -1000000000000000000 < z)(h2:z < 1000000000000000000)(e:di [x0,.int (f+1),.list ws,.int M]=some (.ow C))(fC:bH C=true):bU [x0,.int f,.list ws,.int M]=some (.ow C):=by
 simp only[bU,eM,Z4,Z5,Nat.reduceAdd,fu,fP,aA,au,ag,ad,aa,a_,ce,fm,Nat.reduceSub,List.replicate,Z9,Z8,Z2,Sl.isBr,ah,Z1,Z0,Z3,be,look,Sl.val,ea,PL.settle,frz,frzAll,Nat.reduceLT,Z7,Z6,aZ,dv,cN,gN,iI,ae,pC,jb,eC,ja,Int.reducePow,Int.reduceNeg,Int.reduceLE,Int.reduceLT,and_self,Int.reduceToNat,gr,Bool.or_false,fB,Cm.i,Cm.s,aM,aO,aG,eL,cE,h2,h1,e,cn,bC,fC,bB]
theorem tT(ns:List Int)(w:List Nat)(hw:0 < w.length)(hw2:w.length≤1000)(hn:∀a∈w,az a)(first most:Nat)(hf:first≤90)(hm:most≤100):∃c:List Pc,bU [.list (ns.map .int),.int first,.list (w.map fG),.int most]=some (.ow (c.map aj))∧c.length≤most∧CordW w c:=by
 have ea:=jI ns first
 by_cases h: -1000000000000000000 < ns.getD first 0∧ns.getD first 0 < 1000000000000000000
 ·obtain⟨c,e,l,k⟩:=rF ns w hw hw2 hn (first+1) most (by omega) hm
  rw[show((first+1:Nat):Int)=(first:Int)+1 by omega]at e
  exact⟨c,Bx _ _ _ _ _ _ ea h.1 h.2 e (dS _),l,k⟩
 ·obtain⟨c,e,l,k⟩:=rE w hw hw2 hn (ns.getD first 0) most hm
  exact⟨c,Bw _ _ _ _ _ _ ea h e (dS _),l,k⟩
theorem jR(x0:Sl):∀(c:List Pc) (st:List Pc) (a b d:Sl),st.length+c.length≤100000→∃a' b' d',cw bn bq (c.map aj) [x0,.ow (st.reverse.map aj),a,b,d]=some ([x0,.ow ((c.foldl NH.stp st).reverse.map aj),a',b',d'],.nx)
 |[],st,a,b,d,_=>⟨a,b,d,rfl⟩
 |p::c,st,a,b,d,h=>by
  have step:∃a' b' d',(bn (aj p) [x0,.ow (st.reverse.map aj),a,b,d]).bind bq=some ([x0,.ow ((NH.stp st p).reverse.map aj),a',b',d'],.nx):=by
   cases st with
   |nil=>
    by_cases z:p.2=0
    ·simp only[bn,g_,aj,z,Z4,Z5,Nat.reduceAdd,eG,aD,List.reverse_nil,fm,Nat.reduceLT,Z7,Z6,Z0,g9,List.isEmpty_nil,bq,fg,kH,aA,au,aa,Z3,Z2,PL.settle,frz,frzAll,aZ,eR,d_,Sl.val,cN,ae,Sl.isBr,iI,pC,look,gr,Z1,fU,eL,cE,eC,jL,aG,aO,cg,bb,ee,aH,bu,gO,mM,Nat.reduceSub,bv,Nat.reduceLeDiff,Z8,NH.stp,bB]
     exact⟨_,_,_,rfl⟩
    ·simp only[bn,g_,aj,Z4,Z5,Nat.reduceAdd,eG,aD,List.reverse_nil,fm,Nat.reduceLT,Z7,Z6,Z0,g9,List.isEmpty_nil,bq,fg,kH,aA,au,aa,Z3,Z2,PL.settle,frz,frzAll,aZ,eR,d_,Sl.val,cN,ae,Sl.isBr,iI,pC,look,gr,Z1,fU,eL,cE,eC,jL,aG,aO,cg,bb,ee,aH,bu,gO,mM,Nat.reduceSub,bv,z,Nat.reduceLeDiff,Z8,NH.stp,bB]
     exact⟨_,_,_,rfl⟩
   |cons q st=>
    have lb:st.length < 1000000∧st.length+1 < 1000000:=by simp at h;omega
    by_cases e:q.1=p.1
    ·by_cases z:q.2+p.2=0
     ·simp only[bn,g_,eG,aD,ud,oz,ce,fm,Z4,Z5,Nat.reduceAdd,Nat.reduceLT,Z7,Z6,Z0,g9,bq,fg,kH,NH.stp,bB]
      simp only[aj,Z4,Z5,Nat.reduceAdd,List.isEmpty_nil,e,Z0,aA,au,aa,Z3,Z2,PL.settle,frz,frzAll,Nat.reduceLT,Z7,Z6,aZ,eR,d_,Sl.val,cN,ae,Sl.isBr,iI,pC,look,gr,Z1,fU,eL,cE,eC,jL,aG,aO,cg,bb,ee,aH,bu,gO,m5,mM,hJ,iX,hW,List.dropLast_concat,jB,o9,z,bv,Nat.reduceLeDiff,bB]
      simp[aj]
     ·simp only[bn,g_,eG,aD,ud,oz,ce,fm,Z4,Z5,Nat.reduceAdd,Nat.reduceLT,Z7,Z6,Z0,g9,bq,fg,kH,NH.stp,bB]
      simp only[aj,Z4,Z5,Nat.reduceAdd,List.isEmpty_nil,e,Z0,aA,au,aa,Z3,Z2,PL.settle,frz,frzAll,Nat.reduceLT,Z7,Z6,aZ,eR,d_,Sl.val,cN,ae,Sl.isBr,iI,pC,look,gr,Z1,fU,eL,cE,eC,jL,aG,aO,cg,bb,ee,aH,bu,gO,m5,mM,hJ,iX,hW,List.dropLast_concat,jB,o9,bv,z,Nat.reduceLeDiff,eQ,List.length_reverse,lb,bB]
      simp[aj]
    ·by_cases z:p.2=0
     ·simp only[bn,g_,eG,aD,ud,oz,ce,fm,Z4,Z5,Nat.reduceAdd,Nat.reduceLT,Z7,Z6,Z0,g9,bq,fg,kH,NH.stp,bB]
      simp only[aj,z,Z4,Z5,Nat.reduceAdd,List.isEmpty_nil,Z0,aA,au,aa,Z3,Z2,PL.settle,frz,frzAll,Nat.reduceLT,Z7,Z6,aZ,eR,d_,Sl.val,cN,ae,Sl.isBr,iI,pC,look,gr,Z1,fU,eL,cE,eC,jL,aG,aO,cg,bb,ee,aH,bu,gO,m5,mM,hJ,iX,hW,m6,e,List.dropLast_concat,jB,o9,bv,Nat.reduceLeDiff,bB]
      simp[aj]
     ·simp only[bn,g_,eG,aD,ud,oz,ce,fm,Z4,Z5,Nat.reduceAdd,Nat.reduceLT,Z7,Z6,Z0,g9,bq,fg,kH,NH.stp,bB]
      simp only[aj,Z4,Z5,Nat.reduceAdd,List.isEmpty_nil,Z0,aA,au,aa,Z3,Z2,PL.settle,frz,frzAll,Nat.reduceLT,Z7,Z6,aZ,eR,d_,Sl.val,cN,ae,Sl.isBr,iI,pC,look,gr,Z1,fU,eL,cE,eC,jL,aG,aO,cg,bb,ee,aH,bu,gO,m5,mM,hJ,iX,hW,m6,e,List.dropLast_concat,vn,eQ,List.length_reverse,bv,z,Nat.reduceLeDiff,lb,bB]
      simp[aj]
  obtain⟨a',b',d',e⟩:=step
  have ih:=jR x0 c (NH.stp st p) a' b' d' (by have:=NH.qo st p;simp at h;omega)
  obtain⟨a2,b2,d2,e2⟩:=ih
  refine⟨a2,b2,d2,?_⟩
  rw[ce,cw,e]
  exact e2
theorem oN(c:List Pc)(h:c.length≤100000):dW [.list (c.map aj)]=some (.ow ((NH.short c).map aj)):=by
 obtain⟨a,b,d,e⟩:=jR (.sh (.list (c.map aj))) c [] .no .no .no (by simpa using h)
 simp only[List.reverse_nil,fm]at e
 simp only[dW,eM,Z4,Z5,fu,gD,aA,au,cG,bu,a_,ce,fm,Nat.reduceSub,List.replicate,Z9,Z8,Z0,Nat.reduceLeDiff,PL.settle,frz,frzAll,Nat.reduceAdd,Nat.reduceLT,Z7,Z6,eS,aW,aa,aM,Z2,e,Z3,Z1,cn,bC,dS,Option.some.injEq,bB]
 rfl
theorem ve(c:List Pc)(h:c.length≤100000):fN [.list (c.map aj)]=some (.sh (.bool (decide (NH.short c=[])))):=by
 have e:decide (((NH.short c).length:Int)=0)=decide (NH.short c=[]):=by
  rw[Bool.eq_iff_iff]
  simp only[decide_eq_true_eq]
  rw[←List.length_eq_zero_iff]
  omega
 simp only[fN,eM,Z4,Z5,fu,jF,aM,ae,bO,ad,ag,aa,a_,ce,fm,Nat.sub_self,List.replicate,Z9,Z8,Z2,Sl.isBr,ah,Z1,Z0,be,look,Sl.val,oN c h,ef,eQ,pC,fg,eC,bv,e,cn,bC,cS,bB]
theorem m8(w:List Nat)(a:Nat):(Builtin.Str.occurrences ⟨w.toArray⟩ ⟨#[a]⟩ 0 (⟨w.toArray⟩:Str).length 1).isEmpty= !decide (a∈w):=by
 have h:=PySem.StrLaws.found_one ⟨w.toArray⟩ a
 rw[List.toList_toArray]at h
 rw[←h,Bool.not_not]
theorem By{a:Nat}(h:az a):decide ([a] < (Str.ofString "a").cps.toList)=false:=by
 have e:(Str.ofString "a").cps.toList=[97]:=by decide+kernel
 rw[e]
 refine decide_eq_false fun k=>?_
 have:a < 97:=by
  cases k with
  |rel k=>exact k
  |cons k=>cases k
 exact absurd this (Nat.not_lt.mpr h.1)
theorem Bz{a:Nat}(h:az a):decide ((Str.ofString "z").cps.toList < [a])=false:=by
 have e:(Str.ofString "z").cps.toList=[122]:=by decide+kernel
 rw[e]
 refine decide_eq_false fun k=>?_
 have:122 < a:=by
  cases k with
  |rel k=>exact k
  |cons k=>cases k
 exact absurd this (Nat.not_lt.mpr (Nat.le_of_lt_succ h.2))
theorem vf{a:Nat}(h:az a):fM [.str ⟨#[a]⟩]=some (.sh (.bool true)):=by
 have l:(⟨#[a]⟩:Str).length=1:=rfl
 have t:(#[a]:Array Nat).toList=[a]:=rfl
 have lo:=By h
 have hi:=Bz h
 simp only[fM,eM,Z4,Z5,fu,jE,aM,nD,iI,aa,a_,ce,fm,Nat.sub_self,List.replicate,Z9,Z8,Z2,look,Sl.val,nI,Ty.is,B3,Z1,Z0,ae,bO,ad,Sl.isBr,ah,ef,pC,fg,eC,gN,Bool.or_false,fB,Cm.i,Cm.s,be,l,Nat.reduceLeDiff,Int.cast_ofNat_Int,bv,hi,lo,cn,bC,cS,bB]
theorem pW(x0:Sl):∀(w:List Nat) (a:Sl),(∀y∈w,az y)→∃a',cw gh gi (w.map fG) [x0,a]=some ([x0,a'],.nx)
 |[],a,_=>⟨a,rfl⟩
 |y::w,a,h=>by
  have n:=vf (h y (ir ..))
  have e:(gh (fG y) [x0,a]).bind gi=some ([x0,.sh (fG y)],.nx):=by
   simp only[gh,aD,Z4,Z5,Nat.reduceAdd,Nat.reduceLT,fG,Z7,Z6,gi,Z0,aZ,dv,d_,ag,ad,aa,Z3,Z2,Sl.isBr,ah,Z1,be,look,Sl.val,n,gO,aO,bB]
  obtain⟨a',ih⟩:=pW x0 w (.sh (fG y)) fun z hz=>h z (g6 _ hz)
  refine⟨a',?_⟩
  rw[ce,cw,e]
  exact ih
theorem rG(w:List Nat):gv ⟨w.toArray⟩=w.map fG:=by simp[gv,fG]
theorem EW(w:List Nat):kQ ⟨w.toArray⟩=w.map fR:=by simp[kQ,fR]
theorem oj:∀(w:List Nat),kO (w.map fG)=some (w.map fR)
 |[]=>rfl
 |a::w=>by simp only[ce,fG,kO];rw[oj w];rfl
theorem om(w:List Nat):ij ((w.map fR).map PyData.str)=some (w.map fR):=by
 induction w with
 |nil=>rfl
 |cons a w ih=>simp only[ce,ij,ih,Z1]
theorem vW(w:List Nat):((w.map fR).map (·.length)).sum+(w.map fR).length*(Str.ofString "").length=w.length:=by
 have:(Str.ofString "").length=0:=rfl
 rw[this,Nat.mul_zero,Nat.add_zero]
 induction w with
 |nil=>rfl
 |cons a w ih=>simp only[ce,List.sum_cons,ih,Z4];show 1+_=_;omega
theorem tU:∀(w:List Nat),Txt.join "" (w.map fR)=⟨w.toArray⟩:=by
 intro w
 show Builtin.Str.glued "" _=_
 rw[StrLaws.glued_eq_join]
 induction w with
 |nil=>rfl
 |cons a w ih=>
  cases w with
  |nil=>rfl
  |cons b w=>
   have e:Str.join "" ((a::b::w).map fR)=(⟨#[a]⟩:Str)++""++Str.join "" ((b::w).map fR):=rfl
   rw[e,ih]
   show(⟨(#[a]++(Str.ofString "").cps)++(b::w).toArray⟩:Str)=_
   rw[show(Str.ofString "").cps=#[] by decide+kernel]
   simp
theorem pX(w:List Nat):(cb w).length≤1000000:=jK (List.length_filter_le _ _) (by simp)
theorem mf{w:List Nat}(h:∀y∈w,az y)(hl:w.length≤3900):cK [.str ⟨w.toArray⟩]=some (.sh (.str ⟨(cb w).toArray⟩)):=by
 obtain⟨a,e⟩:=pW (.sh (.str ⟨w.toArray⟩)) w .no h
 have d:=ly fun y hy=>jv (h y hy)
 have d2:(w.map fR).length < 4000∧(i7 (w.map fR)).length < 64:=⟨by rw[eQ];omega,vm (rB fun y hy=>jv (h y hy)) (by decide)⟩
 have l:=vW (cb w)
 have l2:=pX w
 simp only[cK,eM,Z4,Z5,fu,la,aA,aZ,dv,d_,iI,aa,a_,ce,fm,Nat.reduceSub,List.replicate,Z9,Z8,Z2,look,Sl.val,nI,Ty.is,B3,Z1,Z0,gO,aO,eS,aW,frz,aM,kM,de,sE,rG,e,EW,d2,and_self,d,om,l,l2,tU,cn,bC,cS,bB]
theorem mL:∀(c:List Pc) (x0 x1:Sl),bW fW aL fX (c.map aj) [x0,x1]=some ((c.map (·.1)).map fG)
 |[],x0,x1=>rfl
 |p::c,x0,x1=>by
  have e:(fW (aj p) [x0,x1])=some [.sh (.str ⟨#[p.1]⟩),.sh (.int p.2)]:=rfl
  have e2:fX [.sh (.str ⟨#[p.1]⟩),.sh (.int p.2)]=some (.sh (.str ⟨#[p.1]⟩),[.sh (.str ⟨#[p.1]⟩),.sh (.int p.2)]):=rfl
  rw[ce,bW,e,Option.bind_some]
  simp only[aL,frz,Z0,e2,mL c,Z1,if_true,ce,fG]
theorem tV{c:List Pc}(h:CordL c)(hl:c.length≤1000):dO [.list (c.map aj)]=some (.sh (.str ⟨(cb (c.map (·.1))).toArray⟩)):=by
 have k:=mL c .no .no
 have az:=fun y hy=>jv (h.az y hy)
 have d:=ly az
 have d2:((c.map (·.1)).map fR).length < 4000∧(i7 ((c.map (·.1)).map fR)).length < 64:=⟨by simp;omega,vm (rB az) (by decide)⟩
 have l:=vW (cb (c.map (·.1)))
 have l2:=pX (c.map (·.1))
 have l3:((c.map (·.1)).map fG).length≤1000000:=by simp;omega
 simp only[dO,eM,Z4,Z5,fu,iO,aM,kM,iI,de,aP,aW,aa,a_,ce,fm,Nat.sub_self,List.replicate,Z9,Z8,Z2,frz,Z0,gS,mC,k,lm,l3,look,Sl.val,oj,d2,and_self,d,sE,om,l,l2,tU,Z1,cn,bC,cS,bB]
def stay(w:List Nat)(c:List Pc):List Pc:=c.filter fun p=> !decide (p.1∈w)
theorem vX{tg:gB}{cd:iu}{el:bL}{u:Sl}(w:List Nat)(ht:∀d x,tg d [x,u]=some [.sh d,u])(hc:∀p:Pc,cd [.sh (aj p),u]=some (!decide (p.1∈w),[.sh (aj p),u]))(hel:∀d,el [.sh d,u]=some (.sh d,[.sh d,u])):∀(c:List Pc) (x:Sl),bW tg cd el (c.map aj) [x,u]=some ((stay w c).map aj)
 |[],x=>rfl
 |p::c,x=>by
  rw[ce,bW,ht,Option.bind_some,hc,Option.bind_some]
  have ih:=vX w ht hc hel c (.sh (aj p))
  by_cases k:p.1∈w
  ·rw[stay,List.filter_cons_of_neg (by simpa using k)]
   simp only[k,bB]
   exact ih
  ·rw[stay,List.filter_cons_of_pos (by simpa using k)]
   simp only[k,hel,Z0,frz,ih,Z1,ce,bB]
   rfl
theorem zl{w:List Nat}(h:∀y∈w,az y){a:Nat}:a∈cb w↔a∈w:=by
 rw[inOrd_mem]
 exact⟨fun z=>z.2,fun z=>⟨jv (h a z),z⟩⟩
theorem vg{w:List Nat}(h:∀y∈w,az y)(c:List Pc):stay (cb w) c=stay w c:=by
 unfold stay
 congr 1
 funext p
 rw[decide_eq_decide.mpr (zl h)]
theorem xy(w:List Nat)(p:Pc):eP [.sh (aj p),.sh (.str ⟨w.toArray⟩)]=some (!decide (p.1∈w),[.sh (aj p),.sh (.str ⟨w.toArray⟩)]):=by
 have o:=m8 w p.1
 simp only[eP,cN,ae,aa,aj,Z2,Sl.isBr,pC,fU,look,Sl.val,eL,cE,Z0,iX,Z1,wL,eC,B4,Z3,o,Bool.not_not,bB]
theorem tW(w:List Nat)(c:List Pc):(stay w c).length≤c.length:=List.length_filter_le _ _
theorem vh{w:List Nat}(h:∀y∈w,az y)(hl:w.length≤1000)(c:List Pc)(hc:c.length≤1000):fO [.list (c.map aj),.str ⟨w.toArray⟩]=some (.ow ((stay w c).map aj)):=by
 have s:=mf h (by omega)
 have k:=vX (tg:=gE) (cd:=eP) (el:=gG) (u:=.sh (.str ⟨(cb w).toArray⟩)) (cb w) (fun _ _=>rfl) (xy (cb w)) (fun _=>rfl) c .no
 rw[vg h]at k
 have l3:((stay w c).map aj).length≤1000000:=by have:=tW w c;simp;omega
 have s2:au 2 (ag cK (ad false (aa 1) ah)) [.sh (.list (c.map aj)),.sh (.str ⟨w.toArray⟩),.no]=some ([.sh (.list (c.map aj)),.sh (.str ⟨w.toArray⟩),.sh (.str ⟨(cb w).toArray⟩)],.nx):=by
  simp only[au,ag,ad,aa,Z3,Z2,Sl.isBr,ah,Z1,Z0,be,look,Sl.val,s,PL.settle,frz,frzAll,Z4,Z5,Nat.reduceAdd,Nat.reduceLT,Z7,Z6,bB]
 have g:jG=aA (au 2 (ag cK (ad false (aa 1) ah))) (aM (aP [none,some 2] (aW (aa 0)) gE eP gG)):=rfl
 simp only[fO,eM,fu,a_,g,ce,fm,Z4,Z5,Nat.reduceSub,Nat.reduceAdd,Nat.zero_add,List.replicate,Z9,Z8,aT s2]
 simp only[aM,aP,aW,aa,Z2,frz,Z0,gS,ce,mC,fm,Z3,Sl.val,k,dS,l3,cn,bC,bB]
theorem mh{w:List Nat}(h:∀y∈w,az y)(hl:w.length≤1000)(c:List Pc)(hc:c.length≤1000):bZ [.list (c.map aj),.str ⟨w.toArray⟩]=some (.sh (.bool (decide (NH.short (stay w c)=[])))):=by
 have k:=vh h hl c hc
 have f:=ve (stay w c) (by have:=tW w c;omega)
 simp only[bZ,eM,Z4,Z5,Nat.reduceAdd,fu,e_,aM,ag,ad,aa,a_,ce,fm,Nat.sub_self,List.replicate,Z9,Z8,Z2,Sl.isBr,ah,Z1,Z0,Z3,be,look,Sl.val,k,f,cn,bC,cS,bB]
theorem aK{c:List PyData→Option Sl}{g:qw}{E E1:List Sl}{ss:List Sl}{ds:List PyData}{r:Sl}(h:g E=some (ss,E1))(hl:be E1 ss=some ds)(hc:c ds=some r):ag c g E=some (r,E1):=by
 unfold ag
 rw[h,Option.bind_some]
 show(be E1 ss).bind _=_
 rw[hl,Option.bind_some,hc]
 rfl
theorem tX{x:Int}{f:bL}{E:List Sl}{y:Int}{g:bL}(hf:g E=some (.sh (.int x),E))(h:f E=some (.sh (.int y),E)):ae aG false g f E=some (.sh (.int (x+y)),E):=by
 simp only[ae,aG,hf,h,Z0,look,Sl.val,bB]
theorem zn{x:Int}{f:bL}{E:List Sl}{y:Int}{g:bL}(hf:g E=some (.sh (.int x),E))(h:f E=some (.sh (.int y),E))(ok:ga x y=true):ae gM false g f E=some (.sh (.int (x*y)),E):=by
 simp only[ae,gM,hf,h,Z0,look,Sl.val,ok,bB]
theorem mi{f:bL}{E E1:List Sl}{d:PyData}{i:Nat}(h:f E=some (.sh d,E1))(hi:i < E1.length):au i f E=some (E1.set i (.sh d),.nx):=by
 unfold au
 rw[h]
 simp only[Z0,PL.settle,hi,if_true]
theorem vY{a b:iu}{E E1:List Sl}{r:Option (Bool×List Sl)}(h:a E=some (false,E1))(k:b E1=r):iJ a b E=r:=by
 unfold iJ
 rw[h,Option.bind_some]
 exact k
theorem Gd{f g:bL}{E:List Sl}{s1 s2:Sl}(hf:f E=some (s1,E))(hg:g E=some (s2,E)):ad false f (ad false g ah) E=some ([s1,s2],E):=by
 simp only[ad,ah,hf,hg,Z0,Z1,bB]
theorem zo{E:List Sl}{f g:bL}{x y:Int}(hf:f E=some (.sh (.int x),E))(hg:g E=some (.sh (.int y),E))(h:0 < y):ae bV false f g E=some (.sh (.int (x % y)),E):=by
 simp only[ae,hf,hg,Z0,bV,eC,ja,look,Sl.val,h,Z1,bB]
theorem BA{E:List Sl}{f g:bL}{x y:Int}(hf:f E=some (.sh (.int x),E))(hg:g E=some (.sh (.int y),E))(h:fI y=true):ae ba false f g E=some (.sh (.int (x / y)),E):=by
 simp only[ae,hf,hg,Z0,ba,eC,ja,look,Sl.val,h,Z1,bB]
theorem xz:(Str.ofString "abcdefghijklmnopqrstuvwxyz")=(⟨(List.range' 97 26).toArray⟩:Str):=by decide+kernel
theorem DD(w:List Nat)(a:Nat):B4 (.str ⟨#[a]⟩) (.str ⟨w.toArray⟩)=some (decide (a∈w)):=by
 show some (!(Builtin.Str.occurrences ⟨w.toArray⟩ ⟨#[a]⟩ 0 (⟨w.toArray⟩:Str).length 1).isEmpty)=_
 rw[m8,Bool.not_not]
theorem EY{E:List Sl}{f g:bL}{d1 d2:PyData}{b:Bool}(hf:f E=some (.sh d1,E))(hg:g E=some (.sh d2,E))(hd:B4 d1 d2=some b):cN (ae (wL false) false f g) E=some (b,E):=by
 simp only[cN,ae,wL,eC,hf,hg,hd,Z0,look,Sl.val,Z1,bB]
theorem BB(w:List Nat)(n:Nat)(c:Nat)(hc:c=97+n)(p:Int)(hp:p=2 ^ n)(a:Sl):(fD (.str ⟨#[c]⟩) [.sh (.str ⟨w.toArray⟩),.sh (.int (NH.dQ w n)),.sh (.int p),a]).bind fE=some ([.sh (.str ⟨w.toArray⟩),.sh (.int (NH.dQ w (n+1))),.sh (.int (p*2)),.sh (.str ⟨#[c]⟩)],.nx):=by
 have i1:=DD w c
 have ok:ga p 2=true:=qQ (by decide) (by decide)
 have b:(NH.dQ w (n+1):Int)=if c∈w then (NH.dQ w n:Int)+p else (NH.dQ w n:Int):=by
  rw[NH.dQ,hc,hp]
  split
  ·push_cast;rfl
  ·simp
 generalize (NH.dQ w (n+1):Int)=B1 at b ⊢
 generalize (NH.dQ w n:Int)=B0 at b ⊢
 have tg:fD (.str ⟨#[c]⟩) [.sh (.str ⟨w.toArray⟩),.sh (.int B0),.sh (.int p),a]=some [.sh (.str ⟨w.toArray⟩),.sh (.int B0),.sh (.int p),.sh (.str ⟨#[c]⟩)]:=rfl
 have t1:cN (ae (wL false) false (aa 3) (aa 0)) [.sh (.str ⟨w.toArray⟩),.sh (.int B0),.sh (.int p),.sh (.str ⟨#[c]⟩)]=some (decide (c∈w),[.sh (.str ⟨w.toArray⟩),.sh (.int B0),.sh (.int p),.sh (.str ⟨#[c]⟩)]):=EY rfl rfl i1
 have s2:∀x:Int,au 2 (ae gM false (aa 2) (pC (.int 2))) [.sh (.str ⟨w.toArray⟩),.sh (.int x),.sh (.int p),.sh (.str ⟨#[c]⟩)]=some ([.sh (.str ⟨w.toArray⟩),.sh (.int x),.sh (.int (p*2)),.sh (.str ⟨#[c]⟩)],.nx):=fun x=>mi (zn (g:=aa 2) (f:=pC (.int 2)) rfl rfl ok) (show 2 < 4 by decide)
 rw[tg,Option.bind_some,fE]
 by_cases h:c∈w
 ·rw[if_pos h]at b
  rw[decide_eq_true h]at t1
  have s1:au 1 (ae aG false (aa 1) (aa 2)) [.sh (.str ⟨w.toArray⟩),.sh (.int B0),.sh (.int p),.sh (.str ⟨#[c]⟩)]=some ([.sh (.str ⟨w.toArray⟩),.sh (.int B1),.sh (.int p),.sh (.str ⟨#[c]⟩)],.nx):=by
   rw[b]
   exact mi (tX (g:=aa 1) (f:=aa 2) rfl rfl) (show 1 < 4 by decide)
  rw[aT (og t1 s1)]
  exact s2 B1
 ·rw[if_neg h]at b
  rw[decide_eq_false h]at t1
  rw[aT (mI (b:=aO) t1 rfl),b]
  exact s2 B0
theorem vZ(w:List Nat):∀(k n:Nat) (a:Sl),n+k=26→∃a' b',cw fD fE ((List.range' (97+n) k).map fun c=>.str ⟨#[c]⟩) [.sh (.str ⟨w.toArray⟩),.sh (.int (NH.dQ w n)),.sh (.int (2 ^ n)),a]=some ([.sh (.str ⟨w.toArray⟩),.sh (.int (NH.bX w)),b',a'],.nx)
 | 0,n,a,h=>⟨a,.sh (.int (2 ^ n)),by rw[show n=26 by omega];rfl⟩
 |k+1,n,a,h=>by
  have s:=BB w n (97+n) rfl (2 ^ n) rfl a
  rw[(Int.pow_succ 2 n).symm]at s
  obtain⟨a',b',e⟩:=vZ w k (n+1) (.sh (.str ⟨#[97+n]⟩)) (by omega)
  refine⟨a',b',?_⟩
  rw[List.range'_succ,ce,cw,s]
  exact e
theorem ku(w:List Nat):b_ [.str ⟨w.toArray⟩]=some (.sh (.int (NH.bX w))):=by
 obtain⟨a,b,e⟩:=vZ w 26 0 .no rfl
 have z0:((NH.dQ w 0:Nat):Int)=0:=rfl
 have z1:(2:Int) ^ 0=1:=rfl
 rw[z0,z1,Nat.add_zero]at e
 have sg:gv (⟨(List.range' 97 26).toArray⟩:Str)=(List.range' 97 26).map fun c=>.str ⟨#[c]⟩:=by simp[gv]
 simp only[b_,eM,Z4,Z5,fu,jH,aA,au,pC,a_,ce,fm,Nat.reduceSub,List.replicate,Z9,Z8,PL.settle,frz,frzAll,Z0,Nat.reduceAdd,Nat.reduceLT,Z7,Z6,eS,aW,xz,sg,aM,aa,e,Z3,Z2,cn,bC,cS,bB]
theorem vi(a b:Nat):Builtin.bitAnd (a:Int) (b:Int)=((a &&& b:Nat):Int):=by
 simp[Builtin.bitAnd]
theorem zp{E:List Sl}{f g:bL}{x y:Nat}(hf:f E=some (.sh (.int x),E))(hg:g E=some (.sh (.int y),E)):ae uH false f g E=some (.sh (.int ((x &&& y:Nat):Int)),E):=by
 simp only[ae,uH,eC,ja,hf,hg,Z0,look,Sl.val,Z1,vi,bB]
theorem zq{E:List Sl}{f g:bL}{x y:Int}(hf:f E=some (.sh (.int x),E))(hg:g E=some (.sh (.int y),E)):cN (ae fg false f g) E=some (decide (x=y),E):=by
 simp only[cN,ae,fg,eC,hf,hg,Z0,look,Sl.val,Z1,bv,bB]
def lA(n:Nat):PyData:=.int n
theorem v5(x1:Sl)(b:Nat):∀(ps:List Nat) (a:Sl),∃E,cw bT bA (ps.map lA) [.sh (.int b),x1,a]=some (E,if ps.any (fun p=>decide (p &&& b=p))then .rt (.sh (.bool true))else .nx)
 |[],a=>⟨_,rfl⟩
 |p::ps,a=>by
  have t1:cN (ae fg false (ae uH false (aa 2) (aa 0)) (aa 2)) [.sh (.int b),x1,.sh (.int p)]=some (decide (((p &&& b:Nat):Int)=(p:Int)),[.sh (.int b),x1,.sh (.int p)]):=zq (zp (f:=aa 2) (g:=aa 0) (x:=p) (y:=b) rfl rfl) rfl
  have tg:bT (lA p) [.sh (.int b),x1,a]=some [.sh (.int b),x1,.sh (.int p)]:=rfl
  by_cases h:p &&& b=p
  ·rw[decide_eq_true (by rw[h])]at t1
   refine⟨[.sh (.int b),x1,.sh (.int p)],?_⟩
   have st:(bT (lA p) [.sh (.int b),x1,a]).bind bA=some ([.sh (.int b),x1,.sh (.int p)],.rt (.sh (.bool true))):=by
    rw[tg,Option.bind_some,bA]
    exact og t1 rfl
   rw[ce,cw,st,List.any_cons,decide_eq_true h]
   rfl
  ·rw[decide_eq_false (by omega)]at t1
   obtain⟨E,ih⟩:=v5 x1 b ps (.sh (.int p))
   refine⟨E,?_⟩
   have st:(bT (lA p) [.sh (.int b),x1,a]).bind bA=some ([.sh (.int b),x1,.sh (.int p)],.nx):=by
    rw[tg,Option.bind_some,bA]
    exact mI t1 rfl
   rw[ce,cw,st,List.any_cons,decide_eq_false h,Bool.false_or]
   exact ih
theorem BC(b:Nat)(ps:List Nat):aQ [.int b,.list (ps.map lA)]=some (.sh (.bool (ps.any fun p=>decide (p &&& b=p)))):=by
 obtain⟨E,e⟩:=v5 (.sh (.list (ps.map lA))) b ps .no
 cases h:ps.any (fun p=>decide (p &&& b=p))with
 |true=>
  rw[h]at e
  simp only[if_true]at e
  simp only[aQ,eM,Z4,Z5,Nat.reduceAdd,fu,dw,aA,eS,aW,aa,a_,ce,fm,Nat.reduceSub,List.replicate,Z9,Z8,Z3,Z2,frz,Z0,e,aM,pC,cn,bC,cS,bB]
 |false=>
  rw[h]at e
  simp only[bB]at e
  simp only[aQ,eM,Z4,Z5,Nat.reduceAdd,fu,dw,aA,eS,aW,aa,a_,ce,fm,Nat.reduceSub,List.replicate,Z9,Z8,Z3,Z2,frz,Z0,e,aM,pC,cn,bC,cS,bB]
theorem tY(x1:Sl)(b:Nat):∀(ps:List Nat) (a:Sl),∃E,cw cX cF (ps.map lA) [.sh (.int b),x1,a]=some (E,if ps.all (fun p=> !decide (p &&& b=0))then .nx else .rt (.sh (.bool false)))
 |[],a=>⟨_,rfl⟩
 |p::ps,a=>by
  have t1:cN (ae fg false (ae uH false (aa 2) (aa 0)) (pC (.int 0))) [.sh (.int b),x1,.sh (.int p)]=some (decide (((p &&& b:Nat):Int)=0),[.sh (.int b),x1,.sh (.int p)]):=zq (zp (f:=aa 2) (g:=aa 0) (x:=p) (y:=b) rfl rfl) rfl
  have tg:cX (lA p) [.sh (.int b),x1,a]=some [.sh (.int b),x1,.sh (.int p)]:=rfl
  by_cases h:p &&& b=0
  ·rw[decide_eq_true (by rw[h];rfl)]at t1
   refine⟨[.sh (.int b),x1,.sh (.int p)],?_⟩
   have st:(cX (lA p) [.sh (.int b),x1,a]).bind cF=some ([.sh (.int b),x1,.sh (.int p)],.rt (.sh (.bool false))):=by
    rw[tg,Option.bind_some,cF]
    exact og t1 rfl
   rw[ce,cw,st,List.all_cons,decide_eq_true h]
   rfl
  ·rw[decide_eq_false (by omega)]at t1
   obtain⟨E,ih⟩:=tY x1 b ps (.sh (.int p))
   refine⟨E,?_⟩
   have st:(cX (lA p) [.sh (.int b),x1,a]).bind cF=some ([.sh (.int b),x1,.sh (.int p)],.nx):=by
    rw[tg,Option.bind_some,cF]
    exact mI t1 rfl
   rw[ce,cw,st,List.all_cons,decide_eq_false h,Bool.not_false,Bool.true_and]
   exact ih
theorem zr(b:Nat)(ps:List Nat):cH [.int b,.list (ps.map lA)]=some (.sh (.bool (ps.all fun p=> !decide (p &&& b=0)))):=by
 obtain⟨E,e⟩:=tY (.sh (.list (ps.map lA))) b ps .no
 cases h:ps.all (fun p=> !decide (p &&& b=0))with
 |true=>
  rw[h]at e
  simp only[if_true]at e
  simp only[cH,eM,Z4,Z5,Nat.reduceAdd,fu,fF,aA,eS,aW,aa,a_,ce,fm,Nat.reduceSub,List.replicate,Z9,Z8,Z3,Z2,frz,Z0,e,aM,pC,cn,bC,cS,bB]
 |false=>
  rw[h]at e
  simp only[bB]at e
  simp only[cH,eM,Z4,Z5,Nat.reduceAdd,fu,fF,aA,eS,aW,aa,a_,ce,fm,Nat.reduceSub,List.replicate,Z9,Z8,Z3,Z2,frz,Z0,e,aM,pC,cn,bC,cS,bB]
def ai(w:List Nat):PyData:=.str ⟨w.toArray⟩
def BD(w:List Nat):List (List Nat):=w.foldl (fun acc a=>acc++acc.map (· ++[a])) [[]]
theorem dI(l:List (List Nat)):bH (l.map ai)=true:=by
 induction l with
 |nil=>rfl
 |cons a l ih=>show(cS (ai a)&&bH (l.map ai))=true;rw[ih];rfl
theorem zt(u v:List Nat):(⟨u.toArray⟩:Str)++(⟨v.toArray⟩:Str)=⟨(u++v).toArray⟩:=by
 show(⟨u.toArray++v.toArray⟩:Str)=_
 simp
theorem mj(w:List Nat):(⟨w.toArray⟩:Str).length=w.length:=by show w.toArray.size=_;simp
theorem zu(a:Nat):∀(l:List (List Nat)) (x0:Sl),(∀u∈l,u.length≤1000)→bW fY aL eU (l.map ai) [x0,.sh (.str ⟨#[a]⟩)]=some ((l.map (· ++[a])).map ai)
 |[],x0,_=>rfl
 |u::l,x0,h=>by
  have hu:=h u (ir ..)
  have ap:(⟨u.toArray⟩:Str)++(⟨#[a]⟩:Str)=⟨(u++[a]).toArray⟩:=zt u [a]
  have l1:(⟨#[a]⟩:Str).length=1:=rfl
  have lb:u.length+1≤1000000:=by omega
  have e:fY (ai u) [x0,.sh (.str ⟨#[a]⟩)]=some [.sh (.str ⟨u.toArray⟩),.sh (.str ⟨#[a]⟩)]:=rfl
  have e2:eU [.sh (.str ⟨u.toArray⟩),.sh (.str ⟨#[a]⟩)]=some (.sh (.str ⟨(u++[a]).toArray⟩),[.sh (.str ⟨u.toArray⟩),.sh (.str ⟨#[a]⟩)]):=by
   simp only[eU,ae,aa,Z2,Sl.isBr,aG,look,Sl.val,eL,cE,Z0,Z3,mj,l1,lb,ap,bB]
  rw[ce,bW,e,Option.bind_some]
  simp only[aL,frz,Z0,e2,zu a l _ fun v hv=>h v (g6 _ hv),Z1,if_true,ce]
  rfl
theorem zv(x0:Sl):∀(w:List Nat) (l:List (List Nat)) (n:Nat) (a:Sl),l.length*2 ^ w.length≤100000→n+w.length≤1000→(∀u∈l,u.length≤n)→∃a',cw dX dY (w.map fun c=>.str ⟨#[c]⟩) [x0,.ow (l.map ai),a]=some ([x0,.ow ((w.foldl (fun acc a=>acc++acc.map (· ++[a])) l).map ai),a'],.nx)
 |[],l,n,a,_,_,_=>⟨a,rfl⟩
 |c::w,l,n,a,hb,hn,hl=>by
  have p1:1≤2 ^ w.length:=Nat.one_le_two_pow
  have lle:l.length≤100000:=by
   rw[List.length_cons,Nat.pow_succ]at hb
   have:l.length*1≤l.length*(2 ^ w.length*2):=Nat.mul_le_mul_left _ (by omega)
   omega
  have k:=zu c l .no fun u hu=>by have:=hl u hu;simp at hn;omega
  have lb:(l.map (· ++[c])).length≤1000000:=by simp;omega
  have lb2:l.length+(l.map (· ++[c])).length≤1000000:=by simp;omega
  have fl:=dI (l.map (· ++[c]))
  have lb3:l.length≤1000000:=by omega
  have lb4:l.length+l.length≤1000000:=by omega
  have st:(dX (.str ⟨#[c]⟩) [x0,.ow (l.map ai),a]).bind dY=some ([x0,.ow ((l++l.map (· ++[c])).map ai),.sh (.str ⟨#[c]⟩)],.nx):=by
   simp only[dX,aD,Z4,Z5,Nat.reduceAdd,Nat.reduceLT,Z7,Z6,dY,Z0,au,ae,aa,Z3,Z2,Sl.isBr,aP,aW,frz,gS,ce,mC,fm,aG,look,Sl.val,eL,cE,k,fl,eQ,lb3,mM,lb4,←oz,PL.settle,frzAll,bB]
  obtain⟨a',e⟩:=zv x0 w (l++l.map (· ++[c])) (n+1) (.sh (.str ⟨#[c]⟩)) (by
   rw[vn,eQ,←Nat.two_mul,Nat.mul_assoc]
   rw[List.length_cons,Nat.pow_succ]at hb
   have e1:2*(l.length*2 ^ w.length)=l.length*(2 ^ w.length*2):=by rw[Nat.mul_comm 2,Nat.mul_assoc]
   omega) (by simp at hn;omega) (fun u hu=>by
    rcases Zan.mp hu with q |q
    ·have:=hl u q;omega
    ·obtain⟨v,hv,rfl⟩:=Zba.mp q
     have:=hl v hv
     simp;omega)
  refine⟨a',?_⟩
  rw[ce,cw,st]
  exact e
theorem zw(w:List Nat)(hw:w.length≤10):bh [.str ⟨w.toArray⟩]=some (.ow ((BD w).map ai)):=by
 have p:2 ^ w.length≤2 ^ 10:=Nat.pow_le_pow_right (by decide) hw
 obtain⟨a,e⟩:=zv (.sh (.str ⟨w.toArray⟩)) w [[]] 0 .no (by simp;omega) (by omega) (fun u hu=>by rw[Zaf.mp hu];simp)
 have e0:[PyData.str ""]=([[]]:List (List Nat)).map ai:=rfl
 have sg:gv (⟨w.toArray⟩:Str)=w.map fun c=>.str ⟨#[c]⟩:=by simp[gv]
 have fl:=dI (BD w)
 unfold BD at fl ⊢
 have s1:au 1 (cG (aH (pC (.str "")) bu)) [.sh (.str ⟨w.toArray⟩),.no,.no]=some ([.sh (.str ⟨w.toArray⟩),.ow (([[]]:List (List Nat)).map ai),.no],.nx):=by
  rw[←e0]
  simp only[au,cG,aH,pC,frz,bu,Z1,Z0,Z4,Z5,Nat.reduceLeDiff,PL.settle,frzAll,Nat.reduceAdd,Nat.reduceLT,Z7,Z6,bB]
 have it:∀y:Sl,aW (aa 0) [.sh (.str ⟨w.toArray⟩),y,.no]=some (w.map fun c=>.str ⟨#[c]⟩,[.sh (.str ⟨w.toArray⟩),y,.no]):=fun y=>by
  simp only[aW,aa,Z2,frz,Z0,sg]
 have fo:eS (aW (aa 0)) dX dY [.sh (.str ⟨w.toArray⟩),.ow (([[]]:List (List Nat)).map ai),.no]=some ([.sh (.str ⟨w.toArray⟩),.ow ((w.foldl (fun acc a=>acc++acc.map (· ++[a])) [[]]).map ai),a],.nx):=by
  unfold eS
  rw[it,Option.bind_some]
  exact e
 have g:bh [.str ⟨w.toArray⟩]=(gV [.sh (.str ⟨w.toArray⟩),.no,.no]).bind fun a=>match a.2 with |.rt r=>cn r |.nx=>some (.sh .none) |_=>none:=rfl
 rw[g,gV,aT s1,aT fo]
 simp only[aM,aa,Z3,Z2,Z0,Z7,Z6,Z1,cn,bC,fl,if_true]
open NhFam in
theorem v6(w:List Nat):NhSG.iN ⟨w.toArray⟩=key w:=by
 show(((⟨w.toArray⟩:Str).length:Int),w.toArray.toList)=((w.length:Int),w)
 rw[mj]
theorem tZ:∀F:List (List Nat),kO (F.map ai)=some (F.map fun w=>(⟨w.toArray⟩:Str))
 |[]=>rfl
 |w::F=>by
  show(kO (F.map ai)).map ((⟨w.toArray⟩:Str):: ·)=_
  rw[tZ F]
  rfl
theorem zz(F:List (List Nat)):NhSG.jP (F.map fun w=>(⟨w.toArray⟩:Str))=(NhFam.iZ F).map fun w=>(⟨w.toArray⟩:Str):=by
 refine(NhSG.pN ((List.mergeSort_perm F _).map _) ?_).symm
 rw[List.pairwise_map]
 exact(NhFam.pS F).imp fun {a b} h=>by
  unfold NhSG.rM
  rw[v6,v6]
  have:NhSG.gC (NhFam.key b) (NhFam.key a)=false:=by simpa[NhFam.jM]using h
  rw[this];rfl
theorem BE(F:List (List Nat)):(F.map fun w=>(⟨w.toArray⟩:Str)).map PyData.str=F.map ai:=by rw[List.map_map];rfl
def Fit(F:List (List Nat)):Prop:=F.length < 1100∧∀w∈F,NH.nU w∧w.length≤1000
theorem Fit.chk{F:List (List Nat)}(h:Fit F):(decide ((F.map fun w=>(⟨w.toArray⟩:Str)).length < 65536)&&(F.map fun w=>(⟨w.toArray⟩:Str)).all fun z=>decide (z.length≤1000))=true:=by
 simp only[uf,decide_eq_true_eq,List.all_eq_true,eQ]
 refine⟨Nat.lt_trans h.1 (by decide),fun z hz=>?_⟩
 obtain⟨w,hw,rfl⟩:=Zba.mp hz
 rw[mj]
 exact(h.2 w hw).2
theorem oO{F:List (List Nat)}(h:Fit F):bx [.list (F.map ai)]=some (.ow ((NhFam.iZ F).map ai)):=by
 have a:qZ (aa 0) [.sh (.list (F.map ai))]=some (.ow ((NhFam.iZ F).map ai),[.sh (.list (F.map ai))]):=by
  unfold qZ
  simp only[aa,Z2,Z0,look,Sl.val,tZ,h.chk,if_true,zz,BE]
 have fl:=dI (NhFam.iZ F)
 simp only[bx,fb,eM,fu,a_,aM,a,Z0,Z1,cn,bC,fl,Z4,Z5,Nat.sub_self,List.replicate,ce,fm,List.append_nil,Nat.reduceAdd,bB]
def cq(w:List Nat):PyData:=lA (NH.bX w)
theorem xA(l:List (List Nat)):bH (l.map cq)=true:=by
 induction l with
 |nil=>rfl
 |cons a l ih=>show(cS (cq a)&&bH (l.map cq))=true;rw[ih];rfl
theorem t5(K:List (List Nat)):K.map cq=(K.map NH.bX).map lA:=by rw[List.map_map];rfl
theorem zB{K:List (List Nat)}(h:∀k∈K,NH.nU k)(w:List Nat):(K.map NH.bX).any (fun p=>decide (p &&& NH.bX w=p))=K.any (fun k=>decide (NhFam.le k w)):=by
 induction K with
 |nil=>rfl
 |cons k K ih=>
  rw[ce,List.any_cons,List.any_cons,ih fun k hk=>h k (g6 _ hk)]
  congr 1
  exact decide_eq_decide.mpr (NH.wZ (h k (ir ..)))
theorem on(x0:Sl):∀(S K:List (List Nat)) (a b:Sl),(∀w∈S,NH.nU w)→(∀w∈K,NH.nU w)→K.length+S.length≤2000→∃y a' b',cw dr cI (S.map ai) [x0,.ow (K.map ai),.ow (K.map cq),a,b]=some ([x0,.ow ((NhFam.jf K S).map ai),y,a',b'],.nx)
 |[],K,a,b,_,_,_=>⟨_,a,b,rfl⟩
 |w::S,K,a,b,hS,hK,hl=>by
  have tg:dr (ai w) [x0,.ow (K.map ai),.ow (K.map cq),a,b]=some [x0,.ow (K.map ai),.ow (K.map cq),.sh (ai w),b]:=rfl
  have c1:ag b_ (ad false (aa 3) ah) [x0,.ow (K.map ai),.ow (K.map cq),.sh (ai w),b]=some (.sh (.int (NH.bX w)),[x0,.ow (K.map ai),.ow (K.map cq),.sh (ai w),b]):=aK (ss:=[.sh (ai w)]) rfl rfl (ku w)
  have s1:au 4 (ag b_ (ad false (aa 3) ah)) [x0,.ow (K.map ai),.ow (K.map cq),.sh (ai w),b]=some ([x0,.ow (K.map ai),.ow (K.map cq),.sh (ai w),.sh (.int (NH.bX w))],.nx):=mi c1 (show 4 < 5 by decide)
  have pp:=BC (NH.bX w) (K.map NH.bX)
  rw[←t5,zB hK w]at pp
  have c2:d_ (ag aQ (ad false (aa 4) (ad false (aa 2) ah))) [x0,.ow (K.map ai),.ow (K.map cq),.sh (ai w),.sh (.int (NH.bX w))]=some (K.any (fun k=>decide (NhFam.le k w)),[x0,.ow (K.map ai),.ow (K.map cq),.sh (ai w),.sh (.int (NH.bX w))]):=by
   have c3:ag aQ (ad false (aa 4) (ad false (aa 2) ah)) [x0,.ow (K.map ai),.ow (K.map cq),.sh (ai w),.sh (.int (NH.bX w))]=some (.sh (.bool (K.any (fun k=>decide (NhFam.le k w)))),[x0,.ow (K.map ai),.ow (K.map cq),.sh (ai w),.sh (.int (NH.bX w))]):=aK (ss:=[.sh (.int (NH.bX w)),.al 2]) rfl rfl pp
   simp only[d_,c3,Z0,look,Sl.val,gO,Z1]
  by_cases h:K.any (fun k=>decide (NhFam.le k w))=true
  ·rw[h]at c2
   have st:(dr (ai w) [x0,.ow (K.map ai),.ow (K.map cq),a,b]).bind cI=some ([x0,.ow (K.map ai),.ow (K.map cq),.sh (ai w),.sh (.int (NH.bX w))],.nx):=by
    rw[tg,Option.bind_some,cI,aT s1]
    refine mI ?_ rfl
    simp only[dv,c2,Z1,Bool.not_true]
   obtain⟨y,a',b',e⟩:=on x0 S K (.sh (ai w)) (.sh (.int (NH.bX w))) (fun v hv=>hS v (g6 _ hv)) hK (by simp at hl;omega)
   refine⟨y,a',b',?_⟩
   rw[ce,cw,st,NhFam.jf,if_pos h]
   exact e
  ·have h':K.any (fun k=>decide (NhFam.le k w))=false:=by simpa using h
   rw[h']at c2
   have b1:K.length < 1000000:=by simp at hl;omega
   have st:(dr (ai w) [x0,.ow (K.map ai),.ow (K.map cq),a,b]).bind cI=some ([x0,.ow ((K++[w]).map ai),.ow ((K++[w]).map cq),.sh (ai w),.sh (.int (NH.bX w))],.nx):=by
    rw[tg,Option.bind_some,cI,aT s1]
    have n2:dv (d_ (ag aQ (ad false (aa 4) (ad false (aa 2) ah)))) [x0,.ow (K.map ai),.ow (K.map cq),.sh (ai w),.sh (.int (NH.bX w))]=some (true,[x0,.ow (K.map ai),.ow (K.map cq),.sh (ai w),.sh (.int (NH.bX w))]):=by
     simp only[dv,c2,Z1,Bool.not_false]
    refine og n2 ?_
    have a1:cg (bb 2 (aa 4)) [x0,.ow (K.map ai),.ow (K.map cq),.sh (ai w),.sh (.int (NH.bX w))]=some ([x0,.ow (K.map ai),.ow ((K++[w]).map cq),.sh (ai w),.sh (.int (NH.bX w))],.nx):=by
     simp only[cg,bb,Z3,Z2,aa,frz,Z0,eQ,b1,Z7,Z6,if_true,Z1,oz,ce,fm]
     rfl
    rw[aT a1]
    simp only[cg,bb,oz,ce,fm,Z3,Z2,aa,frz,Z0,eQ,b1,Z7,Z6,if_true,Z1]
   obtain⟨y,a',b',e⟩:=on x0 S (K++[w]) (.sh (ai w)) (.sh (.int (NH.bX w))) (fun v hv=>hS v (g6 _ hv)) (fun v hv=>by
    rcases Zan.mp hv with q |q
    ·exact hK v q
    ·rw[Zaf.mp q];exact hS w (ir ..)) (by simp at hl ⊢;omega)
   refine⟨y,a',b',?_⟩
   rw[ce,cw,st,NhFam.jf,if_neg h]
   exact e
theorem jw{F:List (List Nat)}(h:Fit F):bJ [.list (F.map ai)]=some (.ow ((NhFam.bg F).map ai)):=by
 obtain⟨y,a,b,e⟩:=on (.sh (.list (F.map ai))) (NhFam.iZ F) [] .no .no (fun w hw=>(h.2 w (NhFam.sortT_mem.mp hw)).1) (fun w hw=>by cases hw) (by
  have:(NhFam.iZ F).length=F.length:=(List.mergeSort_perm F _).length_eq
  have:=h.1
  simp;omega)
 have it:aW (ag bx (ad false (aa 0) ah)) [.sh (.list (F.map ai)),.ow [],.ow [],.no,.no]=some ((NhFam.iZ F).map ai,[.sh (.list (F.map ai)),.ow [],.ow [],.no,.no]):=by
  have c:ag bx (ad false (aa 0) ah) [.sh (.list (F.map ai)),.ow [],.ow [],.no,.no]=some (.ow ((NhFam.iZ F).map ai),[.sh (.list (F.map ai)),.ow [],.ow [],.no,.no]):=aK (ss:=[.sh (.list (F.map ai))]) rfl rfl (oO h)
  unfold aW
  rw[c]
  rfl
 have fo:eS (aW (ag bx (ad false (aa 0) ah))) dr cI [.sh (.list (F.map ai)),.ow [],.ow [],.no,.no]=some ([.sh (.list (F.map ai)),.ow ((NhFam.bg F).map ai),y,a,b],.nx):=by
  unfold eS
  rw[it,Option.bind_some]
  exact e
 have g:bJ [.list (F.map ai)]=(gU [.sh (.list (F.map ai)),.no,.no,.no,.no]).bind fun a=>match a.2 with |.rt r=>cn r |.nx=>some (.sh .none) |_=>none:=rfl
 have s1:au 1 (cG bu) [.sh (.list (F.map ai)),.no,.no,.no,.no]=some ([.sh (.list (F.map ai)),.ow [],.no,.no,.no],.nx):=by simp only[au,cG,bu,Z0,Z5,Nat.reduceLeDiff,PL.settle,frz,frzAll,Z4,Nat.reduceAdd,Nat.reduceLT,Z7,Z6,bB]
 have s2:au 2 (cG bu) [.sh (.list (F.map ai)),.ow [],.no,.no,.no]=some ([.sh (.list (F.map ai)),.ow [],.ow [],.no,.no],.nx):=by simp only[au,cG,bu,Z0,Z5,Nat.reduceLeDiff,PL.settle,frz,frzAll,Z4,Nat.reduceAdd,Nat.reduceLT,Z7,Z6,bB]
 have fl:=dI (NhFam.bg F)
 rw[g,gU,aT s1,aT s2,aT fo]
 simp only[aM,aa,Z3,Z2,Z0,Z7,Z6,Z1,cn,bC,fl,if_true]
theorem jS{w:List Nat}(h:w.length≤10):bM [ai w]=some (.sh .none):=by
 have l:=mj w
 have lt:¬((w.length:Int) > 10):=by omega
 have lb:w.length≤1000000:=by omega
 simp only[bM,eM,ai,Z4,Z5,fu,gH,aZ,cN,ae,bO,ad,aa,a_,ce,fm,Nat.sub_self,List.replicate,Z9,Z8,Z2,Sl.isBr,ah,Z1,Z0,ef,be,look,Sl.val,l,lb,pC,eC,fB,Cm.i,Cm.s,lt,aO,cn,bC,bB]
theorem f_{js:List (Option Nat)}{it:lB}{tg:gB}{c:iu}{el:bL}{E E1:List Sl}{ds rs:List PyData}(hi:it E=some (ds,E1))(hl:bW tg c el ds (gS js E1)=some rs)(fl:bH rs=true)(ll:rs.length≤1000000):aP js it tg c el E=some (.ow rs,E1):=by
 simp only[aP,hi,Z0,hl,fl,ll,and_self,Z1,Bool.and_self,bB]
theorem Ca{tg:gB}{cond:iu}{elt:bL}{d r:PyData}{ds rs:List PyData}{E E1:List Sl}{b:Bool}(t:tg d E=some E1)(c:cond E1=some (b,E1))(el:elt E1=some (.sh r,E1))(h:bW tg cond elt ds E1=some rs):bW tg cond elt (d::ds) E=some (if b then r::rs else rs):=by
 cases b with
 |true=>simp only[bW,t,c,el,h,Z0,Z1,if_true,frz]
 |false=>simp only[bW,t,c,h,Z0,bB]
theorem v7{f:bL}{E E1:List Sl}{r:Sl}(h:f E=some (r,E1)):cg f E=some (E1,.nx):=by
 simp only[cg,h,Z1]
theorem zC{f:bL}{E E1:List Sl}{ds:List PyData}{i:Nat}(h:f E=some (.ow ds,E1))(hi:i < E1.length):au i f E=some (E1.set i (.ow ds),.nx):=by
 simp only[au,h,Z0,PL.settle,Sl.isAl,hi,Z1,bB]
theorem jJ(w:List Nat):NhFam.Srt (cb w):=List.Pairwise.sublist List.filter_sublist (List.pairwise_lt_range' ..)
theorem DE{c:List PyData→Option Sl}{g:qw}{E E2:List Sl}{ss:List Sl}{ds:List PyData}{d:PyData}{i:Nat}(h:g E=some (ss,E))(hl:be E ss=some ds)(hc:c ds=some (.sh d))(hi:i < E.length)(hE:E.set i (.sh d)=E2):au i (ag c g) E=some (E2,.nx):=by
 rw[←hE]
 exact mi (aK h hl hc) hi
theorem rH{c:List PyData→Option Sl}{g:qw}{E E2:List Sl}{ss:List Sl}{ds es:List PyData}{i:Nat}(h:g E=some (ss,E))(hl:be E ss=some ds)(hc:c ds=some (.ow es))(hi:i < E.length)(hE:E.set i (.ow es)=E2):au i (ag c g) E=some (E2,.nx):=by
 rw[←hE]
 exact zC (aK h hl hc) hi
theorem DF{c:List Pc}(hc:c.length≤1000){w:List Nat}(h:∀y∈w,az y)(hl:w.length≤1000):cD [.sh (ai w),.sh (.list (c.map aj))]=some (decide (NH.short (stay w c)=[]),[.sh (ai w),.sh (.list (c.map aj))]):=by
 have k:ag bZ (ad false (aa 1) (ad false (aa 0) ah)) [.sh (ai w),.sh (.list (c.map aj))]=some (.sh (.bool (decide (NH.short (stay w c)=[]))),[.sh (ai w),.sh (.list (c.map aj))]):=aK (ss:=[.sh (.list (c.map aj)),.sh (ai w)]) rfl rfl (mh h hl c hc)
 unfold cD
 simp only[d_,k,Z0,look,Sl.val,gO,Z1]
theorem v8{c:List Pc}(hc:c.length≤1000):∀(F:List (List Nat)) (x:Sl),(∀w∈F,(∀y∈w,az y)∧w.length≤1000)→bW dg cD dh (F.map ai) [x,.sh (.list (c.map aj))]=some ((F.filter fun w=>decide (NH.short (stay w c)=[])).map ai)
 |[],x,_=>rfl
 |w::F,x,h=>by
  have hw:=h w (ir ..)
  have t:dg (ai w) [x,.sh (.list (c.map aj))]=some [.sh (ai w),.sh (.list (c.map aj))]:=rfl
  have el:dh [.sh (ai w),.sh (.list (c.map aj))]=some (.sh (ai w),[.sh (ai w),.sh (.list (c.map aj))]):=rfl
  rw[ce,Ca t (DF hc hw.1 hw.2) el (v8 hc F _ fun v hv=>h v (g6 _ hv)),List.filter_cons]
  split <;> rfl
structure Few (V:List Nat):Prop where
 srt:NhFam.Srt V
 az:∀y∈V,az y
 len:V.length≤10
theorem Few.sets{V:List Nat}(h:Few V):∀w∈NhFam.fk V,(∀y∈w,Nhk36.az y)∧w.length≤1000:=fun w hw=>by
 obtain⟨s,l⟩:=(NhFam.gg h.srt).mp hw
 have:=(NhFam.eO s h.srt l).length_le
 have:=h.len
 exact⟨fun y hy=>h.az y (l y hy),by omega⟩
theorem Few.ltrs{V:List Nat}(h:Few V):∀w∈NhFam.fk V,NH.nU w:=fun w hw a ha=>by
 have:=(h.sets w hw).1 a ha
 exact⟨this.1,this.2⟩
theorem Few.num{V:List Nat}(h:Few V):(NhFam.fk V).length≤1024:=by
 rw[NhFam.jh]
 have:2 ^ V.length≤2 ^ 10:=Nat.pow_le_pow_right (by decide) h.len
 omega
theorem Few.fit{V:List Nat}(h:Few V)(p:List Nat→Bool):Fit ((NhFam.fk V).filter p):=
 ⟨by have:=List.length_filter_le p (NhFam.fk V);have:=h.num;omega,fun w hw=>⟨h.ltrs w (List.mem_filter.mp hw).1,(h.sets w (List.mem_filter.mp hw).1).2⟩⟩
def v9(c:List Pc)(w:List Nat):Bool:=decide (NH.short (stay w c)=[])
def bI(c:List Pc)(V:List Nat):List (List Nat):=NhFam.bg ((NhFam.fk V).filter (v9 c))
theorem vj{c:List Pc}(kc:CordL c)(hc:c.length≤1000){V:List Nat}(hV:V=cb (c.map (·.1)))(f:Few V):aN [.list (c.map aj)]=some (.ow ((bI c V).map ai)):=by
 have en:dO [.list (c.map aj)]=some (.sh (ai V)):=by rw[hV];exact tV kc hc
 have k1:au 1 (ag dO (ad false (aa 0) ah)) [.sh (.list (c.map aj)),.no]=some ([.sh (.list (c.map aj)),.sh (ai V)],.nx):=DE (ss:=[.sh (.list (c.map aj))]) rfl rfl en (show 1 < 2 by decide) rfl
 have k2:cg (ag bM (ad false (aa 1) ah)) [.sh (.list (c.map aj)),.sh (ai V)]=some ([.sh (.list (c.map aj)),.sh (ai V)],.nx):=v7 (aK (ss:=[.sh (ai V)]) rfl rfl (jS f.len))
 have it:aW (ag bh (ad false (aa 1) ah)) [.sh (.list (c.map aj)),.sh (ai V)]=some ((NhFam.fk V).map ai,[.sh (.list (c.map aj)),.sh (ai V)]):=by
  have k:ag bh (ad false (aa 1) ah) [.sh (.list (c.map aj)),.sh (ai V)]=some (.ow ((NhFam.fk V).map ai),[.sh (.list (c.map aj)),.sh (ai V)]):=aK (ss:=[.sh (ai V)]) rfl rfl (zw V f.len)
  unfold aW
  rw[k]
  rfl
 have lp:=v8 hc (NhFam.fk V) .no f.sets
 have k3:=f_ (js:=[none,some 0]) it lp (dI _) (by
  have:=List.length_filter_le (fun w=>decide (NH.short (stay w c)=[])) (NhFam.fk V)
  have:=f.num
  rw[eQ]
  omega)
 have lo:=jw (f.fit (v9 c))
 have k4:ag bJ (ad false (aP [none,some 0] (aW (ag bh (ad false (aa 1) ah))) dg cD dh) ah) [.sh (.list (c.map aj)),.sh (ai V)]=some (.ow ((bI c V).map ai),[.sh (.list (c.map aj)),.sh (ai V)]):=by
  refine aK (ss:=[.ow (((NhFam.fk V).filter (v9 c)).map ai)]) ?_ rfl lo
  simp only[ad,ah,k3,Z0,Z1,bB]
  rfl
 have g:aN [.list (c.map aj)]=(eI [.sh (.list (c.map aj)),.no]).bind fun a=>match a.2 with |.rt r=>cn r |.nx=>some (.sh .none) |_=>none:=rfl
 have fl:=dI (bI c V)
 rw[g,eI,aT k1,aT k2]
 simp only[aM,k4,Z0,Z1,cn,bC,fl,if_true]
theorem t8(a:Nat):∀(l:List (List Nat)) (x0:Sl),(∀u∈l,u.length≤1000)→bW f8 aL eX (l.map ai) [x0,.sh (.str ⟨#[a]⟩)]=some ((l.map (· ++[a])).map ai)
 |[],x0,_=>rfl
 |u::l,x0,h=>by
  have hu:=h u (ir ..)
  have ap:(⟨u.toArray⟩:Str)++(⟨#[a]⟩:Str)=⟨(u++[a]).toArray⟩:=zt u [a]
  have l1:(⟨#[a]⟩:Str).length=1:=rfl
  have lb:u.length+1≤1000000:=by omega
  have e:f8 (ai u) [x0,.sh (.str ⟨#[a]⟩)]=some [.sh (.str ⟨u.toArray⟩),.sh (.str ⟨#[a]⟩)]:=rfl
  have e2:eX [.sh (.str ⟨u.toArray⟩),.sh (.str ⟨#[a]⟩)]=some (.sh (.str ⟨(u++[a]).toArray⟩),[.sh (.str ⟨u.toArray⟩),.sh (.str ⟨#[a]⟩)]):=by
   simp only[eX,ae,aa,Z2,Sl.isBr,aG,look,Sl.val,eL,cE,Z0,Z3,mj,l1,lb,ap,bB]
  rw[ce,bW,e,Option.bind_some]
  simp only[aL,frz,Z0,e2,t8 a l _ fun v hv=>h v (g6 _ hv),Z1,if_true,ce]
  rfl
theorem t9(x0:Sl):∀(w:List Nat) (l:List (List Nat)) (n:Nat) (a:Sl),l.length*2 ^ w.length≤100000→n+w.length≤1000→(∀u∈l,u.length≤n)→∃a',cw dZ d0 (w.map fun c=>.str ⟨#[c]⟩) [x0,.ow (l.map ai),a]=some ([x0,.ow ((w.foldl (fun acc a=>acc++acc.map (· ++[a])) l).map ai),a'],.nx)
 |[],l,n,a,_,_,_=>⟨a,rfl⟩
 |c::w,l,n,a,hb,hn,hl=>by
  have p1:1≤2 ^ w.length:=Nat.one_le_two_pow
  have lle:l.length≤100000:=by
   rw[List.length_cons,Nat.pow_succ]at hb
   have:l.length*1≤l.length*(2 ^ w.length*2):=Nat.mul_le_mul_left _ (by omega)
   omega
  have k:=t8 c l .no fun u hu=>by have:=hl u hu;simp at hn;omega
  have lb:(l.map (· ++[c])).length≤1000000:=by simp;omega
  have lb2:l.length+(l.map (· ++[c])).length≤1000000:=by simp;omega
  have fl:=dI (l.map (· ++[c]))
  have lb3:l.length≤1000000:=by omega
  have lb4:l.length+l.length≤1000000:=by omega
  have st:(dZ (.str ⟨#[c]⟩) [x0,.ow (l.map ai),a]).bind d0=some ([x0,.ow ((l++l.map (· ++[c])).map ai),.sh (.str ⟨#[c]⟩)],.nx):=by
   simp only[dZ,aD,Z4,Z5,Nat.reduceAdd,Nat.reduceLT,Z7,Z6,d0,Z0,au,ae,aa,Z3,Z2,Sl.isBr,aP,aW,frz,gS,ce,mC,fm,aG,look,Sl.val,eL,cE,k,fl,eQ,lb3,mM,lb4,←oz,PL.settle,frzAll,bB]
  obtain⟨a',e⟩:=t9 x0 w (l++l.map (· ++[c])) (n+1) (.sh (.str ⟨#[c]⟩)) (by
   rw[vn,eQ,←Nat.two_mul,Nat.mul_assoc]
   rw[List.length_cons,Nat.pow_succ]at hb
   have e1:2*(l.length*2 ^ w.length)=l.length*(2 ^ w.length*2):=by rw[Nat.mul_comm 2,Nat.mul_assoc]
   omega) (by simp at hn;omega) (fun u hu=>by
    rcases Zan.mp hu with q |q
    ·have:=hl u q;omega
    ·obtain⟨v,hv,rfl⟩:=Zba.mp q
     have:=hl v hv
     simp;omega)
  refine⟨a',?_⟩
  rw[ce,cw,st]
  exact e
theorem t_{V:List Nat}(f:Few V):cJ [.list (V.map fG)]=some (.ow ((NhFam.fk V).map ai)):=by
 have p:2 ^ V.length≤2 ^ 10:=Nat.pow_le_pow_right (by decide) f.len
 obtain⟨a,e⟩:=t9 (.sh (.list (V.map fG))) V [[]] 0 .no (by simp;omega) (by have:=f.len;omega) (fun u hu=>by rw[Zaf.mp hu];simp)
 have e0:[PyData.str ""]=([[]]:List (List Nat)).map ai:=rfl
 have s1:au 1 (cG (aH (pC (.str "")) bu)) [.sh (.list (V.map fG)),.no,.no]=some ([.sh (.list (V.map fG)),.ow (([[]]:List (List Nat)).map ai),.no],.nx):=by
  rw[←e0]
  simp only[au,cG,aH,pC,frz,bu,Z1,Z0,Z4,Z5,Nat.reduceLeDiff,PL.settle,frzAll,Nat.reduceAdd,Nat.reduceLT,Z7,Z6,bB]
 have it:∀y:Sl,aW (aa 0) [.sh (.list (V.map fG)),y,.no]=some (V.map fG,[.sh (.list (V.map fG)),y,.no]):=fun y=>by
  simp only[aW,aa,Z2,frz,Z0]
 have fo:eS (aW (aa 0)) dZ d0 [.sh (.list (V.map fG)),.ow (([[]]:List (List Nat)).map ai),.no]=some ([.sh (.list (V.map fG)),.ow ((NhFam.fk V).map ai),a],.nx):=by
  unfold eS
  rw[it,Option.bind_some]
  exact e
 have g:cJ [.list (V.map fG)]=(gW [.sh (.list (V.map fG)),.no,.no]).bind fun a=>match a.2 with |.rt r=>cn r |.nx=>some (.sh .none) |_=>none:=rfl
 have fl:=dI (NhFam.fk V)
 rw[g,gW,aT s1,aT fo]
 simp only[aM,aa,Z3,Z2,Z0,Z1,cn,bC,fl,if_true]
theorem ua(c:Nat)(l:List Nat)(h:c∉l):l.filter (fun k=> !decide (k=c))=l:=List.filter_eq_self.mpr fun k hk=>by
 have:k≠c:=fun e=>h (e▸hk)
 simp[this]
theorem ub(c:Nat):∀ps:List Str,(∀p∈ps,c∉p.cps.toList)→(Str.join ⟨#[c]⟩ ps).cps.toList.filter (fun k=> !decide (k=c))=(Str.join "" ps).cps.toList
 |[],_=>rfl
 |[p],h=>ua c _ (h p (Zaf.mpr rfl))
 |p::q::r,h=>by
  have ih:=ub c (q::r) fun a ha=>h a (g6 _ ha)
  have e1:Str.join ⟨#[c]⟩ (p::q::r)=p++⟨#[c]⟩++Str.join ⟨#[c]⟩ (q::r):=rfl
  have e2:Str.join "" (p::q::r)=p++""++Str.join "" (q::r):=rfl
  have e3:("":Str).cps.toList=[]:=rfl
  rw[e1,e2]
  simp only[Str.cps_append,rN,List.filter_append,ih,ua c _ (h p (ir ..)),e3]
  simp
theorem BF(x:Str)(c:Nat):(Txt.replace x ⟨#[c]⟩ "").cps.toList=x.cps.toList.filter fun k=> !decide (k=c):=by
 rw[StrLaws.replace_one,←ub c _ (StrLaws.split_free x c)]
 have j:Str.join ⟨#[c]⟩ (Txt.split x ⟨#[c]⟩)=x:=by first |exact StrLaws.join_split x ⟨#[c]⟩ rfl |exact StrLaws.join_split_one x c |exact StrLaws.join_split _ _ |simp
 rw[j]
theorem zD(w:List Nat)(a:Nat):cL [.sh (.str ⟨#[a]⟩),.sh (ai w)]=some (.sh (.bool (decide (a∈w))),[.sh (.str ⟨#[a]⟩),.sh (ai w)]):=by
 have o:=m8 w a
 simp only[cL,ae,aa,ai,Z2,Sl.isBr,wL,eC,look,Sl.val,B4,Z0,Z3,o,Bool.not_not,Z1,bB]
theorem pY(w:List Nat):∀(v:List Nat) (x:Sl),bW dF aL cL (v.map fG) [x,.sh (ai w)]=some (v.map fun a=>PyData.bool (decide (a∈w)))
 |[],x=>rfl
 |a::v,x=>by
  have t:dF (fG a) [x,.sh (ai w)]=some [.sh (fG a),.sh (ai w)]:=rfl
  exact h9 t (zD w a) (pY w v _)
theorem gm{α:Type}(f:α→Bool):∀l:List α,hM (l.map fun a=>PyData.bool (f a))=some (l.map f)
 |[]=>rfl
 |a::l=>by
  show(hM (l.map fun a=>PyData.bool (f a))).map (f a:: ·)=_
  rw[gm f l]
  rfl
theorem iG{α:Type}(f:α→Bool):∀l:List α,bH (l.map fun a=>PyData.bool (f a))=true
 |[]=>rfl
 |a::l=>by show(cS (.bool (f a))&&_)=true;rw[iG f l];rfl
theorem vk(v w:List Nat)(hv:v.length≤1000):dG [ai v,ai w]=some (.sh (.bool (decide (NhFam.le v w)))):=by
 have it:aW (aa 0) [.sh (ai v),.sh (ai w)]=some (v.map fG,[.sh (ai v),.sh (ai w)]):=by
  simp only[aW,aa,ai,Z2,frz,Z0,rG]
 have k:=f_ (js:=[none,some 1]) it (pY w v .no) (iG _ v) (by rw[eQ];omega)
 have bo:=gm (fun a=>decide (a∈w)) v
 have al:(v.map fun a=>decide (a∈w)).all id=decide (NhFam.le v w):=by
  rw[List.all_map]
  exact Bool.eq_iff_iff.mpr (by rw[decide_eq_true_iff];simp[NhFam.le])
 have lb:v.length≤1000000:=by omega
 have c:bO sH (ad false (aP [none,some 1] (aW (aa 0)) dF aL cL) ah) [.sh (ai v),.sh (ai w)]=some (.sh (.bool (decide (NhFam.le v w))),[.sh (ai v),.sh (ai w)]):=by
  simp only[bO,ad,k,Sl.isBr,ah,Z1,Z0,sH,be,look,Sl.val,bo,al,bB]
 have g:dG [ai v,ai w]=(eY [.sh (ai v),.sh (ai w)]).bind fun a=>match a.2 with |.rt r=>cn r |.nx=>some (.sh .none) |_=>none:=rfl
 rw[g,eY]
 simp only[aM,c,Z0,Z1,cn,bC,cS,if_true]
def keep(w:List Nat)(c:List Pc):List Pc:=c.filter fun p=>decide (p.1∈w)
theorem DG(w:List Nat)(p:Pc):cP [.sh (aj p),.sh (ai w)]=some (decide (p.1∈w),[.sh (aj p),.sh (ai w)]):=by
 have o:=m8 w p.1
 simp only[cP,cN,ae,aa,aj,ai,Z2,Sl.isBr,pC,fU,look,Sl.val,eL,cE,Z0,iX,Z1,wL,eC,B4,Z3,o,Bool.not_not,bB]
theorem v_(w:List Nat):∀(c:List Pc) (x:Sl),bW dD cP dE (c.map aj) [x,.sh (ai w)]=some ((keep w c).map aj)
 |[],x=>rfl
 |p::c,x=>by
  have t:dD (aj p) [x,.sh (ai w)]=some [.sh (aj p),.sh (ai w)]:=rfl
  have el:dE [.sh (aj p),.sh (ai w)]=some (.sh (aj p),[.sh (aj p),.sh (ai w)]):=rfl
  have ih:=v_ w c (.sh (aj p))
  rw[ce,bW,t,Option.bind_some,DG,Option.bind_some]
  by_cases k:p.1∈w
  ·rw[keep,List.filter_cons_of_pos (by simpa using k)]
   simp only[k,el,Z0,frz,ih,Z1,ce,bB]
   rfl
  ·rw[keep,List.filter_cons_of_neg (by simpa using k)]
   simp only[k,bB]
   exact ih
theorem oo(c:List Pc)(hc:c.length≤1000)(hN:NailsOk c)(w:List Nat):aJ [.list (c.map aj),ai w]=some (.sh (.bool (!decide (NH.short (keep w c)=[])))):=by
 have lk:(keep w c).length≤c.length:=List.length_filter_le _ _
 have nk:NailsOk (keep w c):=fun p hp=>hN p (List.mem_filter.mp hp).1
 have it:aW (aa 0) [.sh (.list (c.map aj)),.sh (ai w)]=some (c.map aj,[.sh (.list (c.map aj)),.sh (ai w)]):=rfl
 have k:=f_ (js:=[none,some 1]) it (v_ w c .no) (dS _) (by rw[eQ];omega)
 have s:=lq (keep w c) (by omega) nk
 have ka:ad false (aP [none,some 1] (aW (aa 0)) dD cP dE) ah [.sh (.list (c.map aj)),.sh (ai w)]=some ([.ow ((keep w c).map aj)],[.sh (.list (c.map aj)),.sh (ai w)]):=by
  simp only[ad,ah,k,Z0,Z1,bB]
 have k2:=aK (c:=bS) ka rfl s
 have q:=kX nk.short
 have g:aJ [.list (c.map aj),ai w]=(gk [.sh (.list (c.map aj)),.sh (ai w)]).bind fun a=>match a.2 with |.rt r=>cn r |.nx=>some (.sh .none) |_=>none:=rfl
 rw[g,gk]
 generalize ag bS (ad false (aP [none,some 1] (aW (aa 0)) dD cP dE) ah)=f at k2
 simp only[aM,ae,k2,Sl.isBr,cG,bu,Z0,Z5,Nat.reduceLeDiff,kH,eC,look,Sl.val,q,Z1,cn,bC,cS,bB]
theorem EZ(v:List Nat)(a:Nat):Txt.replace ⟨v.toArray⟩ ⟨#[a]⟩ ""=⟨(v.filter fun k=> !decide (k=a)).toArray⟩:=by
 have h:=BF ⟨v.toArray⟩ a
 simp only at h
 cases e:Txt.replace ⟨v.toArray⟩ ⟨#[a]⟩ "" with
 |mk cps=>
  rw[e]at h
  simp only at h
  have:cps=(v.filter fun k=> !decide (k=a)).toArray:=by rw[←h]
  rw[this]
theorem DH(a:Nat):((⟨#[a]⟩:Str) == ("":Str))=false:=by
 refine beq_eq_false_iff_ne.mpr fun e=>?_
 have:=congrArg (fun s:Str=>s.cps.size) e
 cases this
theorem E7(c:List Pc)(hc:c.length≤1000)(hN:NailsOk c)(v:List Nat)(hv:v.length≤1000)(a:Nat):q_ 1 2 0 aJ [.sh (.str ⟨#[a]⟩),.sh (.list (c.map aj)),.sh (ai v)]=some (.sh (.bool (!decide (NH.short (keep (v.filter fun k=> !decide (k=a)) c)=[]))),[.sh (.str ⟨#[a]⟩),.sh (.list (c.map aj)),.sh (ai v)]):=by
 have p:=oo c hc hN (v.filter fun k=> !decide (k=a))
 have l:(⟨v.toArray⟩:Str).length≤1000:=by rw[Bp];exact hv
 show(if ((⟨#[a]⟩:Str) == ("":Str))=false∧(⟨v.toArray⟩:Str).length≤1000 then (aJ [.list (c.map aj),.str (Txt.replace ⟨v.toArray⟩ ⟨#[a]⟩ "")]).map fun r=>(r,_)else none)=_
 rw[if_pos ⟨DH a,l⟩,EZ]
 show(aJ [.list (c.map aj),ai (v.filter fun k=> !decide (k=a))]).map _=_
 rw[p]
 rfl
theorem zE(c:List Pc)(hc:c.length≤1000)(hN:NailsOk c)(v:List Nat)(hv:v.length≤1000):∀(u:List Nat) (x:Sl),bW (aD 0) aL (q_ 1 2 0 aJ) (u.map fG) [x,.sh (.list (c.map aj)),.sh (ai v)]=some (u.map fun a=>PyData.bool (!decide (NH.short (keep (v.filter fun k=> !decide (k=a)) c)=[])))
 |[],x=>rfl
 |a::u,x=>by
  have t:aD 0 (fG a) [x,.sh (.list (c.map aj)),.sh (ai v)]=some [.sh (fG a),.sh (.list (c.map aj)),.sh (ai v)]:=rfl
  exact h9 t (E7 c hc hN v hv a) (zE c hc hN v hv u _)
def zV(w:List Nat):Str:=⟨w.toArray⟩
theorem zF{w:List Nat}(h:NhFam.Srt w)(a:∀y∈w,az y):cb w=w:=
 (jJ w).ext h (fun x hx=>(inOrd_mem.mp hx).2) fun x hx=>inOrd_mem.mpr ⟨jv (a x hx),hx⟩
theorem BG:∀F:List (List Nat),Txt.join "" (F.map zV)=⟨F.flatten.toArray⟩:=by
 intro F
 show Builtin.Str.glued "" _=_
 rw[StrLaws.glued_eq_join]
 induction F with
 |nil=>rfl
 |cons a F ih=>
  cases F with
  |nil=>simp[Str.join,zV]
  |cons b F=>
   have e:Str.join "" ((a::b::F).map zV)=(zV a)++""++Str.join "" ((b::F).map zV):=rfl
   rw[e,ih]
   show(⟨(a.toArray++(Str.ofString "").cps)++(b::F).flatten.toArray⟩:Str)=_
   rw[show(Str.ofString "").cps=#[] by decide+kernel]
   simp
theorem pZ:∀F:List (List Nat),ij (F.map ai)=some (F.map zV)
 |[]=>rfl
 |w::F=>by
  show(ij (F.map ai)).map (zV w:: ·)=_
  rw[pZ F]
  rfl
theorem zG:∀F:List (List Nat),((F.map zV).map (·.length)).sum+(F.map zV).length*(Str.ofString "").length=F.flatten.length:=by
 intro F
 have:(Str.ofString "").length=0:=rfl
 rw[this,Nat.mul_zero,Nat.add_zero]
 induction F with
 |nil=>rfl
 |cons a F ih=>
  simp only[ce,List.sum_cons,ih,List.flatten_cons,vn]
  rw[show(zV a).length=a.length from mj a]
theorem p6:∀(F:List (List Nat)) (x:Sl),bW cy aL cA (F.map ai) [x]=some (F.map cq)
 |[],x=>rfl
 |v::F,x=>by
  have t:cy (ai v) [x]=some [.sh (ai v)]:=rfl
  have e:cA [.sh (ai v)]=some (.sh (.int (NH.bX v)),[.sh (ai v)]):=aK (ss:=[.sh (ai v)]) rfl rfl (ku v)
  exact h9 t e (p6 F _)
theorem zH{K:List (List Nat)}(h:∀k∈K,NH.nU k)(w:List Nat):(K.map NH.bX).all (fun p=> !decide (p &&& NH.bX w=0))=NhFam.i3 K w:=by
 unfold NhFam.i3
 induction K with
 |nil=>rfl
 |cons k K ih=>
  rw[ce,List.all_cons,List.all_cons,ih fun k hk=>h k (g6 _ hk)]
  congr 1
  exact congrArg not (decide_eq_decide.mpr (NH.w6 (h k (ir ..))))
theorem wa{K:List (List Nat)}(hK:∀k∈K,NH.nU k):∀(F:List (List Nat)) (x:Sl),bW cB bP cC (F.map ai) [x,.sh (.list (K.map cq))]=some ((F.filter (NhFam.i3 K)).map ai)
 |[],x=>rfl
 |v::F,x=>by
  have t:cB (ai v) [x,.sh (.list (K.map cq))]=some [.sh (ai v),.sh (.list (K.map cq))]:=rfl
  have el:cC [.sh (ai v),.sh (.list (K.map cq))]=some (.sh (ai v),[.sh (ai v),.sh (.list (K.map cq))]):=rfl
  have c1:ag b_ (ad false (aa 0) ah) [.sh (ai v),.sh (.list (K.map cq))]=some (.sh (.int (NH.bX v)),[.sh (ai v),.sh (.list (K.map cq))]):=aK (ss:=[.sh (ai v)]) rfl rfl (ku v)
  have pm:=zr (NH.bX v) (K.map NH.bX)
  rw[←t5,zH hK v]at pm
  have c2:ag cH (ad false (ag b_ (ad false (aa 0) ah)) (ad false (aa 1) ah)) [.sh (ai v),.sh (.list (K.map cq))]=some (.sh (.bool (NhFam.i3 K v)),[.sh (ai v),.sh (.list (K.map cq))]):=aK (ss:=[.sh (.int (NH.bX v)),.sh (.list (K.map cq))]) (by simp only[ad,ah,c1,Z0,Z1,aa,Z3,Z2,bB]) rfl pm
  have c:bP [.sh (ai v),.sh (.list (K.map cq))]=some (NhFam.i3 K v,[.sh (ai v),.sh (.list (K.map cq))]):=by
   unfold bP
   simp only[d_,c2,Z0,look,Sl.val,gO,Z1]
  rw[ce,Ca t c el (wa hK F _),List.filter_cons]
  split <;> rfl
theorem DR{f:bL}{E:List Sl}{s1:Sl}(hf:f E=some (s1,E)):ad false f ah E=some ([s1],E):=by
 simp only[ad,ah,hf,Z0,Z1,bB]
structure Uni (U:List Nat):Prop where
 srt:NhFam.Srt U
 lt:∀a∈U,az a
 len:U.length≤10
theorem Uni.ltrs{U w:List Nat}(h:Uni U)(s:NhFam.Sub U w):NH.nU w:=fun a ha=>by
 have:=h.lt a (s.2 a ha)
 exact⟨this.1,this.2⟩
theorem Uni.azw{U w:List Nat}(h:Uni U)(s:NhFam.Sub U w):∀a∈w,az a:=fun a ha=>h.lt a (s.2 a ha)
theorem Uni.short{U w:List Nat}(h:Uni U)(s:NhFam.Sub U w):w.length≤10:=jK (NhFam.eO s.1 h.srt s.2).length_le h.len
theorem Uni.small{U V:List Nat}(u:Uni U)(hV:NhFam.Sub U V):Uni V:=⟨hV.1,u.azw hV,u.short hV⟩
structure Wrt (U:List Nat) (W:List (List Nat)):Prop where
 sub:∀t∈W,NhFam.le t U
 tl:∀t∈W,t.length≤20
 len:W.length≤190
def fH(W:List (List Nat)):List (List Nat):=W.map cb
theorem BH{U t:List Nat}(u:Uni U)(h:NhFam.le t U):NhFam.Sub U (cb t):=⟨jJ t,fun x hx=>h x (inOrd_mem.mp hx).2⟩
theorem Wrt.sets{U:List Nat}{W:List (List Nat)}(u:Uni U)(h:Wrt U W):∀v∈fH W,NhFam.Sub U v:=fun v hv=>by
 obtain⟨t,ht,rfl⟩:=Zba.mp hv
 exact BH u (h.sub t ht)
theorem zI{U:List Nat}{F:List (List Nat)}(u:Uni U)(h:∀v∈F,NhFam.Sub U v)(hl:F.length < 1100):Fit F:=⟨hl,fun w hw=>⟨u.ltrs (h w hw),by have:=u.short (h w hw);omega⟩⟩
theorem jT{U:List Nat}(u:Uni U):∀(W:List (List Nat)) (x:Sl),(∀t∈W,NhFam.le t U)→(∀t∈W,t.length≤20)→bW cY aL cZ (W.map ai) [x]=some ((fH W).map ai)
 |[],x,_,_=>rfl
 |v::W,x,h,hl=>by
  have t:cY (ai v) [x]=some [.sh (ai v)]:=rfl
  have so:=mf (w:=v) (fun y hy=>u.lt y (h v (ir ..) y hy)) (by have:=hl v (ir ..);omega)
  have e:cZ [.sh (ai v)]=some (.sh (ai (cb v)),[.sh (ai v)]):=aK (ss:=[.sh (ai v)]) rfl rfl so
  exact h9 t e (jT u W _ (fun v hv=>h v (g6 _ hv)) fun v hv=>hl v (g6 _ hv))
theorem oP{U:List Nat}{W:List (List Nat)}(u:Uni U)(h:Wrt U W):bN [.list (W.map ai)]=some (.ow ((NhFam.bg (fH W)).map ai)):=by
 have ls:(fH W).length=W.length:=by unfold fH;rw[eQ]
 have hl:=h.len
 have c:aP [none] (aW (aa 0)) cY aL cZ [.sh (.list (W.map ai))]=some (.ow ((fH W).map ai),[.sh (.list (W.map ai))]):=f_ rfl (jT u W _ h.sub h.tl) (dI _) (by rw[eQ];omega)
 have b:ag bJ (ad false (aP [none] (aW (aa 0)) cY aL cZ) ah) [.sh (.list (W.map ai))]=some (.ow ((NhFam.bg (fH W)).map ai),[.sh (.list (W.map ai))]):=aK (ss:=[.ow ((fH W).map ai)]) (by simp only[ad,ah,c,Z0,Z1,bB]) rfl (jw (zI u (h.sets u) (by omega)))
 have fl:=dI (NhFam.bg (fH W))
 simp only[bN,gI,eM,fu,a_,aM,b,Z0,Z1,cn,bC,fl,Z4,Z5,Nat.sub_self,List.replicate,ce,fm,List.append_nil,Nat.reduceAdd,bB]
theorem zJ{W:List (List Nat)}(h:∀t∈W,t.length≤20):W.flatten.length≤W.length*20:=by
 induction W with
 |nil=>simp
 |cons a W ih=>
  have:=ih fun v hv=>h v (g6 _ hv)
  have:=h a (ir ..)
  simp only[List.flatten_cons,vn,Z4]
  omega
theorem oq{U:List Nat}{W:List (List Nat)}(u:Uni U)(h:Wrt U W):ck [.list (W.map ai)]=some (.sh (ai (cb W.flatten))):=by
 have fl:=zJ h.tl
 have hl:=h.len
 have e:=mf (w:=W.flatten) (fun y hy=>by
  obtain⟨v,hv,hy⟩:=List.mem_flatten.mp hy
  exact u.lt y (h.sub v hv y hy)) (by omega)
 have l:=zG W
 have l2:W.flatten.length≤1000000:=by omega
 have j:=BG W
 have a:kM "" (aa 0) [.sh (.list (W.map ai))]=some (.sh (.str ⟨W.flatten.toArray⟩),[.sh (.list (W.map ai))]):=by
  simp only[kM,iI,sE,aa,Z2,Z0,look,Sl.val,pZ,l,l2,if_true,Z1,j]
 have b:ag cK (ad false (kM "" (aa 0)) ah) [.sh (.list (W.map ai))]=some (.sh (ai (cb W.flatten)),[.sh (.list (W.map ai))]):=aK (ss:=[.sh (.str ⟨W.flatten.toArray⟩)]) (by simp only[ad,ah,a,Z0,Z1,bB]) rfl e
 have fx:cS (ai (cb W.flatten))=true:=rfl
 simp only[ck,fZ,eM,fu,a_,aM,b,Z0,Z1,cn,bC,fx,Z4,Z5,Nat.sub_self,List.replicate,ce,fm,List.append_nil,Nat.reduceAdd,bB]
theorem p7{U:List Nat}{W:List (List Nat)}(u:Uni U)(h:Wrt U W):NhFam.Sub U (cb W.flatten):=⟨jJ _,fun x hx=>by
 obtain⟨v,hv,hx⟩:=List.mem_flatten.mp (inOrd_mem.mp hx).2
 exact h.sub v hv x hx⟩
theorem xB{U:List Nat}{W:List (List Nat)}(u:Uni U)(h:Wrt U W):∀v∈fH W,NhFam.le v (cb W.flatten):=fun v hv x hx=>by
 obtain⟨t,ht,rfl⟩:=Zba.mp hv
 obtain⟨a,b⟩:=inOrd_mem.mp hx
 exact inOrd_mem.mpr ⟨a,List.mem_flatten.mpr ⟨t,ht,b⟩⟩
theorem ml(L M:List (List Nat))(hn:L.Nodup)(hm:∀w∈L,w∈M):L.length≤M.length:=by
 induction L generalizing M with
 |nil=>simp
 |cons a L ih=>
  have hn':=List.nodup_cons.mp hn
  have:=ih (M.erase a) hn'.2 fun w hw=>(List.mem_erase_of_ne (a:=w) (b:=a) (fun e=>hn'.1 (by rw[←e];exact hw))).mpr (hm w (g6 _ hw))
  rw[List.length_erase_of_mem (hm a (ir ..))]at this
  have pos:0 < M.length:=List.length_pos_of_mem (hm a (ir ..))
  simp only[Z4]
  omega
theorem zK{U:List Nat}{L:List (List Nat)}{f:List Nat→Prop}(u:Uni U)(t:NhFam.Told U L f):L.length≤1024:=by
 have:=ml L (NhFam.fk U) (NhFam.iD t.srt) fun w hw=>(NhFam.gg u.srt).mpr (t.sub w hw)
 rw[NhFam.jh]at this
 have p:2 ^ U.length≤2 ^ 10:=Nat.pow_le_pow_right (by decide) u.len
 omega
theorem BI{V:List Nat}(u:Uni V)(p:List Nat→Bool):((NhFam.fk V).filter p).length≤1024:=by
 have:=List.length_filter_le p (NhFam.fk V)
 rw[NhFam.jh]at this
 have q:2 ^ V.length≤2 ^ 10:=Nat.pow_le_pow_right (by decide) u.len
 omega
theorem i5{U:List Nat}{W:List (List Nat)}(u:Uni U)(h:Wrt U W):aE [.list (W.map ai)]=some (.ow ((NhFam.nY (fH W) (cb W.flatten)).map ai)):=by
 have tl:=NhFam.jg (h.sets u)
 have lL:=zK u tl
 have hV:=p7 u h
 have uV:=u.small hV
 have hK:∀k∈NhFam.bg (fH W),NH.nU k:=fun k hk=>u.ltrs (tl.sub k hk)
 have cnt:=BI uV (NhFam.i3 (NhFam.bg (fH W)))
 generalize eV:cb W.flatten=V at hV uV cnt
 generalize eF:fH W=F at tl lL hK cnt
 have pl:=oP u h
 rw[eF]at pl
 have pn:=oq u h
 rw[eV]at pn
 have c1:ag bN (ad false (aa 0) ah) [.sh (.list (W.map ai)),.no,.no]=some (.ow ((NhFam.bg F).map ai),[.sh (.list (W.map ai)),.no,.no]):=aK (ss:=[.sh (.list (W.map ai))]) rfl rfl pl
 have i1:aW (ag bN (ad false (aa 0) ah)) [.sh (.list (W.map ai)),.no,.no]=some ((NhFam.bg F).map ai,[.sh (.list (W.map ai)),.no,.no]):=by
  unfold aW
  rw[c1]
  rfl
 have p1:aP [none] (aW (ag bN (ad false (aa 0) ah))) cy aL cA [.sh (.list (W.map ai)),.no,.no]=some (.ow ((NhFam.bg F).map cq),[.sh (.list (W.map ai)),.no,.no]):=f_ i1 (p6 _ _) (xA _) (by rw[eQ];omega)
 have s1:au 1 (aP [none] (aW (ag bN (ad false (aa 0) ah))) cy aL cA) [.sh (.list (W.map ai)),.no,.no]=some ([.sh (.list (W.map ai)),.ow ((NhFam.bg F).map cq),.no],.nx):=zC p1 (show 1 < 3 by decide)
 have c2:ag ck (ad false (aa 0) ah) [.sh (.list (W.map ai)),.ow ((NhFam.bg F).map cq),.no]=some (.sh (ai V),[.sh (.list (W.map ai)),.ow ((NhFam.bg F).map cq),.no]):=aK (ss:=[.sh (.list (W.map ai))]) rfl rfl pn
 have s2:au 2 (ag ck (ad false (aa 0) ah)) [.sh (.list (W.map ai)),.ow ((NhFam.bg F).map cq),.no]=some ([.sh (.list (W.map ai)),.ow ((NhFam.bg F).map cq),.sh (ai V)],.nx):=mi c2 (show 2 < 3 by decide)
 have c3:cg (ag bM (ad false (aa 2) ah)) [.sh (.list (W.map ai)),.ow ((NhFam.bg F).map cq),.sh (ai V)]=some ([.sh (.list (W.map ai)),.ow ((NhFam.bg F).map cq),.sh (ai V)],.nx):=v7 (aK (ss:=[.sh (ai V)]) rfl rfl (jS (by have:=uV.len;omega)))
 have c4:ag bh (ad false (aa 2) ah) [.sh (.list (W.map ai)),.ow ((NhFam.bg F).map cq),.sh (ai V)]=some (.ow ((BD V).map ai),[.sh (.list (W.map ai)),.ow ((NhFam.bg F).map cq),.sh (ai V)]):=aK (ss:=[.sh (ai V)]) rfl rfl (zw _ (by have:=uV.len;omega))
 have i4:aW (ag bh (ad false (aa 2) ah)) [.sh (.list (W.map ai)),.ow ((NhFam.bg F).map cq),.sh (ai V)]=some ((NhFam.fk V).map ai,[.sh (.list (W.map ai)),.ow ((NhFam.bg F).map cq),.sh (ai V)]):=by
  unfold aW
  rw[c4]
  rfl
 have fit:Fit ((NhFam.fk V).filter (NhFam.i3 (NhFam.bg F))):=zI uV (fun v hv=>(NhFam.gg uV.srt).mp (List.mem_filter.mp hv).1) (by omega)
 have p4:aP [none,some 1] (aW (ag bh (ad false (aa 2) ah))) cB bP cC [.sh (.list (W.map ai)),.ow ((NhFam.bg F).map cq),.sh (ai V)]=some (.ow (((NhFam.fk V).filter (NhFam.i3 (NhFam.bg F))).map ai),[.sh (.list (W.map ai)),.ow ((NhFam.bg F).map cq),.sh (ai V)]):=f_ i4 (wa hK _ _) (dI _) (by rw[eQ];omega)
 have c5:ag bJ (ad false (aP [none,some 1] (aW (ag bh (ad false (aa 2) ah))) cB bP cC) ah) [.sh (.list (W.map ai)),.ow ((NhFam.bg F).map cq),.sh (ai V)]=some (.ow ((NhFam.nY F V).map ai),[.sh (.list (W.map ai)),.ow ((NhFam.bg F).map cq),.sh (ai V)]):=aK (ss:=[.ow (((NhFam.fk V).filter (NhFam.i3 (NhFam.bg F))).map ai)]) (by simp only[ad,ah,p4,Z0,Z1,bB]) rfl (jw fit)
 have g:aE [.list (W.map ai)]=(eH [.sh (.list (W.map ai)),.no,.no]).bind fun a=>match a.2 with |.rt r=>cn r |.nx=>some (.sh .none) |_=>none:=rfl
 have fl:=dI (NhFam.nY F V)
 rw[g,eH,aT s1,aT s2,aT c3]
 simp only[aM,c5,Z1,Z0,cn,bC,fl,if_true]
theorem jD{U:List Nat}{W:List (List Nat)}(u:Uni U)(h:Wrt U W):NhFam.Told U (NhFam.nY (fH W) (cb W.flatten)) (NhFam.kZ (fH W)):=by
 have s:=p7 u h
 exact(NhFam.jD u.srt s.1 s.2 (h.sets u) (xB u h)).congr fun w hw=>(NhFam.jC (h.sets u)).symm
theorem p8{U:List Nat}{L:List (List Nat)}(u:Uni U)(h:∀w∈L,NhFam.Sub U w):fH L=L:=by
 unfold fH
 induction L with
 |nil=>rfl
 |cons w L ih=>
  rw[ce,ih fun v hv=>h v (g6 _ hv),zF (h w (ir ..)).1 (u.azw (h w (ir ..)))]
theorem p9{c:List Pc}{V:List Nat}:NhFam.xk V (fun w=>NH.short (stay w c)=[]):=fun v w _ _ l h=>by
 have e:stay w c=NH.fj (fun n=>(!decide (n∈w))&&(!decide (n∈v))) c:=by
  show List.filter _ c=List.filter _ c
  congr 1
  funext p
  by_cases a:p.1∈v
  ·simp[a,l _ a]
  ·simp[a]
 show NH.short (stay w c)=[]
 rw[e]
 exact NH.nT (fun n=> !decide (n∈w)) (fun n=> !decide (n∈v)) h
theorem xC{c:List Pc}{V w:List Nat}(h:∀p∈c,p.1∈V):stay (NhFam.comp V w) c=keep w c:=by
 refine List.filter_congr fun p hp=>?_
 by_cases a:p.1∈w
 ·have:p.1∉NhFam.comp V w:=fun z=>(NhFam.comp_mem.mp z).2 a
  simp[a,this]
 ·have:p.1∈NhFam.comp V w:=NhFam.comp_mem.mpr ⟨h p hp,a⟩
  simp[a,this]
def Df(c:List Pc)(w:List Nat):Prop:=NH.short (keep w c)≠[]
theorem mn{c:List Pc}{V:List Nat}(sV:NhFam.Srt V):NhFam.Told V (bI c V) (fun w=>NH.short (stay w c)=[]):=by
 refine NhFam.tE sV sV (NhFam.le.refl V) p9 (fun w=>?_) fun w hw h=>?_
 ·rw[List.mem_filter,NhFam.gg sV]
  unfold v9
  rw[decide_eq_true_iff]
 ·have e:(w.filter fun x=>decide (x∈V))=w:=List.filter_eq_self.mpr fun x hx=>decide_eq_true (hw.2 x hx)
  rw[e]
  exact h
theorem uc{c:List Pc}{V:List Nat}:NhFam.xk V (Df c):=fun v w _ _ l h z=>h (by
 have e:keep v c=NH.fj (fun n=>decide (n∈v)&&decide (n∈w)) c:=by
  show List.filter _ c=List.filter _ c
  congr 1
  funext p
  by_cases a:p.1∈v
  ·simp[a,l _ a]
  ·simp[a]
 rw[e]
 exact NH.nT (fun n=>decide (n∈v)) (fun n=>decide (n∈w)) z)
theorem p_{V:List Nat}{L:List (List Nat)}{f:List Nat→Prop}(sV:NhFam.Srt V)(t:NhFam.Told V L f)(h8:V.length≤8):L.length≤190:=by
 cases V with
 |nil=>
  have:=ml L (NhFam.fk []) (NhFam.iD t.srt) fun w hw=>(NhFam.gg sV).mpr (t.sub w hw)
  rw[NhFam.jh]at this
  have e:2 ^ ([]:List Nat).length=1:=rfl
  omega
 |cons x V=>
  have sV':NhFam.Srt V:=(List.pairwise_cons.mp sV).2
  have mc:∀(w:List Nat) (y:Nat),y∈w.filter (fun y=> !decide (y=x))↔y∈w∧y≠x:=fun w y=>by simp
  have inj:∀v∈L,∀w∈L,v.filter (fun y=> !decide (y=x))=w.filter (fun y=> !decide (y=x))→v=w:=fun v hv w hw e=>by
   have mv:=(t.mem v).mp hv
   have mw:=(t.mem w).mp hw
   by_cases xw:x∈w
   ·refine mw.2.2 v mv.1 mv.2.1 fun y hy=>?_
    by_cases yx:y=x
    ·rw[yx]
     exact xw
    ·have:=(mc v y).mpr ⟨hy,yx⟩
     rw[e]at this
     exact((mc w y).mp this).1
   ·refine(mv.2.2 w mw.1 mw.2.1 fun y hy=>?_).symm
    have:=(mc w y).mpr ⟨hy,fun z=>xw (z▸hy)⟩
    rw[←e]at this
    exact((mc v y).mp this).1
  have nd:(L.map fun w=>w.filter (fun y=> !decide (y=x))).Nodup:=List.pairwise_map.mpr ((NhFam.iD t.srt).imp_of_mem fun {a b} ha hb n e=>n (inj a ha b hb e))
  have:=ml _ (NhFam.fk V) nd fun w hw=>by
   obtain⟨v,hv,rfl⟩:=Zba.mp hw
   refine(NhFam.gg sV').mpr ⟨(t.sub v hv).1.filter _,fun y hy=>?_⟩
   obtain⟨a,b⟩:=(mc v y).mp hy
   exact(Zaq.mp ((t.sub v hv).2 y a)).resolve_left b
  rw[NhFam.jh,eQ]at this
  have p:2 ^ V.length≤2 ^ 7:=Nat.pow_le_pow_right (by decide) (by simp only[Z4]at h8;omega)
  omega
structure Hld (c:List Pc) (V:List Nat) (H:List (List Nat)):Prop where
 u:Uni V
 nl:∀p∈c,p.1∈V
 told:NhFam.Told V H (Df c)
theorem Hld.one{c:List Pc}{V:List Nat}{H:List (List Nat)}(h:Hld c V H){v:List Nat}(hv:v∈H):NH.short (keep v c)≠[]:=((h.told.mem v).mp hv).2.1
theorem Hld.less{c:List Pc}{V:List Nat}{H:List (List Nat)}(h:Hld c V H){v:List Nat}(hv:v∈H){a:Nat}(ha:a∈v):NH.short (keep (v.filter fun x=> !decide (x=a)) c)=[]:=by
 have m:=(h.told.mem v).mp hv
 refine Classical.byContradiction fun n=>?_
 have e:=m.2.2 _ ⟨m.1.1.filter _,fun x hx=>m.1.2 x (List.mem_filter.mp hx).1⟩ n fun x hx=>(List.mem_filter.mp hx).1
 rw[←e]at ha
 simp at ha
theorem DI{w:List Nat}(h:∀a∈w,az a):(ai w).canLay0=true:=by
 have:∀a∈w,a < 1114112:=fun a ha=>by have:=h a ha;unfold az at this;omega
 simp only[ai,PyData.canLay0,PyData.strOk]
 simpa using this
theorem zL:∀{L:List (List Nat)},(∀w∈L,∀a∈w,az a)→PyData.canLayAll0 (L.map ai)=true∧PyData.depthAll (L.map ai)=0
 |[],_=>by simp[PyData.canLayAll0,PyData.depthAll]
 |w::L,h=>by
  obtain⟨x,y⟩:=zL (L:=L) fun v hv=>h v (g6 _ hv)
  have h1:=DI (h w (ir ..))
  have h2:(ai w).depth=0:=by simp[ai,PyData.depth]
  simp only[ce,PyData.canLayAll0,PyData.depthAll,h1,h2,x,y,Bool.and_self,true_and]
  rfl
theorem xD{L:List (List Nat)}(h:∀w∈L,∀a∈w,az a):SeqAt.shaped (.list (L.map ai))=true:=by
 obtain⟨x,y⟩:=zL h
 unfold SeqAt.shaped
 simp only[PyData.canLay0,PyData.depth,x,y,Bool.true_and]
 decide
theorem zM:∀L:List (List Nat),PyData.eqvAll (L.map ai) (L.map ai)=true
 |[]=>by simp[PyData.eqvAll]
 |w::L=>by
  simp only[ce,PyData.eqvAll,zM L,Bool.and_true]
  simp[ai,PyData.eqv]
theorem zN{L:List (List Nat)}(h:∀w∈L,∀a∈w,az a):wD (.list (L.map ai)) (.list (L.map ai))=some true:=by
 have e:wD (.list (L.map ai)) (.list (L.map ai))=(if SeqAt.shaped (.list (L.map ai))&&SeqAt.shaped (.list (L.map ai))then some (PyData.eqv (.list (L.map ai)) (.list (L.map ai)))else none):=rfl
 rw[e,xD h]
 simp only[PyData.eqv,zM,Bool.and_self,if_true]
theorem Hld.any{c:List Pc}{V:List Nat}{H:List (List Nat)}(h:Hld c V H){w:List Nat}(hw:NhFam.Sub V w)(k:Df c w):(H.any fun k=>decide (NhFam.le k w))=true:=by
 obtain⟨v,hv,l⟩:=(h.told.up_iff uc hw).mpr k
 exact List.any_eq_true.mpr ⟨v,hv,decide_eq_true l⟩
theorem kA(w:List Nat)(c:List Pc):NH.short (keep w (NH.short c))=NH.short (keep w c):=NH.iL (fun n=>decide (n∈w)) c
theorem xE{c:List Pc}{V w:List Nat}(h:∀p∈c,p.1∈V):keep (NhFam.comp V w) c=stay w c:=by
 refine List.filter_congr fun p hp=>?_
 by_cases a:p.1∈w
 ·have:p.1∉NhFam.comp V w:=fun z=>(NhFam.comp_mem.mp z).2 a
  simp[a,this]
 ·have:p.1∈NhFam.comp V w:=NhFam.comp_mem.mpr ⟨h p hp,a⟩
  simp[a,this]
theorem Hld.back{c:List Pc}{V:List Nat}{H:List (List Nat)}(h:Hld c V H)(wH:Wrt V H):NhFam.nY (fH H) (cb H.flatten)=bI c V:=by
 have tm:=jD h.u wH
 rw[p8 h.u h.told.sub]at tm ⊢
 refine tm.uniq (mn h.u.srt) fun w hw=>?_
 rw[NhFam.jC h.told.sub]
 unfold NhFam.Ba
 rw[h.told.up_iff uc (NhFam.tz h.u.srt)]
 unfold Df
 rw[xE h.nl]
 exact Classical.not_not
theorem Hld.wrt{c:List Pc}{V:List Nat}{H:List (List Nat)}(h:Hld c V H)(h8:V.length≤8):Wrt V H:=⟨fun t ht=>(h.told.sub t ht).2,fun t ht=>by have:=h.u.short (h.told.sub t ht);omega,p_ h.u.srt h.told h8⟩
theorem zO{c:List Pc}(kc:CordL c)(hc:c.length≤1000){V:List Nat}(hV:V=cb (c.map (·.1)))(h8:V.length≤8):∃H,aN [.list (c.map aj)]=some (.ow ((bI c V).map ai))∧bt [.list (c.map aj)]=some (.ow (H.map ai))∧aE [.list ((bI c V).map ai)]=some (.ow (H.map ai))∧aE [.list (H.map ai)]=some (.ow ((bI c V).map ai))∧Hld c V H∧(bI c V).length≤190:=by
 have aV:∀y∈V,az y:=fun y hy=>by
  rw[hV]at hy
  exact kc.az y (inOrd_mem.mp hy).2
 have sV:NhFam.Srt V:=by rw[hV];exact jJ _
 have nl:∀p∈c,p.1∈V:=fun p hp=>by
  rw[hV]
  exact inOrd_mem.mpr ⟨jv (kc p hp).1,Zba.mpr ⟨p,hp,rfl⟩⟩
 have u:Uni V:=⟨sV,aV,by omega⟩
 have pf:=vj kc hc hV ⟨sV,aV,by omega⟩
 have tf:=mn (c:=c) sV
 have w:Wrt V (bI c V):=⟨fun t ht=>(tf.sub t ht).2,fun t ht=>by have:=u.short (tf.sub t ht);omega,p_ sV tf h8⟩
 have pm:=i5 u w
 have tm:=jD u w
 rw[p8 u tf.sub]at pm tm
 generalize NhFam.nY (bI c V) (cb (bI c V).flatten)=H at pm tm
 have hh:Hld c V H:=⟨u,nl,tm.congr fun v hv=>by
  rw[NhFam.jC tf.sub]
  unfold NhFam.Ba
  rw[tf.up_iff p9 (NhFam.tz sV),xC nl]
  exact Iff.rfl⟩
 have pb:=i5 u (hh.wrt h8)
 rw[hh.back (hh.wrt h8)]at pb
 refine⟨H,pf,?_,pm,pb,hh,w.len⟩
 have c1:ag aN (ad false (aa 0) ah) [.sh (.list (c.map aj))]=some (.ow ((bI c V).map ai),[.sh (.list (c.map aj))]):=aK (ss:=[.sh (.list (c.map aj))]) rfl rfl pf
 have c2:ag aE (ad false (ag aN (ad false (aa 0) ah)) ah) [.sh (.list (c.map aj))]=some (.ow (H.map ai),[.sh (.list (c.map aj))]):=aK (ss:=[.ow ((bI c V).map ai)]) (DR c1) rfl pm
 have g:bt [.list (c.map aj)]=(eJ [.sh (.list (c.map aj))]).bind fun a=>match a.2 with |.rt r=>cn r |.nx=>some (.sh .none) |_=>none:=rfl
 have fl:=dI H
 rw[g,eJ]
 simp only[aM,c2,Z1,Z0,cn,bC,fl,if_true]
theorem E8(s0 s1 s2 s4 s5 s7 s8:Sl){r:List Pc}(hr:r.length≤1000)(hN:NailsOk r){v:List Nat}(hv:v.length≤1000)(a:NH.short (keep v r)≠[])(b:∀x∈v,NH.short (keep (v.filter fun k=> !decide (k=x)) r)=[]):jj [s0,s1,s2,.ow (r.map aj),s4,s5,.sh (ai v),s7,s8]=some (false,[s0,s1,s2,.ow (r.map aj),s4,s5,.sh (ai v),s7,s8]):=by
 have p:=oo r hr hN v
 rw[decide_eq_false a,Bool.not_false]at p
 have q1:ag aJ (ad false (aa 3) (ad false (aa 6) ah)) [s0,s1,s2,.ow (r.map aj),s4,s5,.sh (ai v),s7,s8]=some (.sh (.bool true),[s0,s1,s2,.ow (r.map aj),s4,s5,.sh (ai v),s7,s8]):=aK (ss:=[.al 3,.sh (ai v)]) rfl rfl p
 have t1:dv (d_ (ag aJ (ad false (aa 3) (ad false (aa 6) ah)))) [s0,s1,s2,.ow (r.map aj),s4,s5,.sh (ai v),s7,s8]=some (false,[s0,s1,s2,.ow (r.map aj),s4,s5,.sh (ai v),s7,s8]):=by
  simp only[dv,d_,q1,Z0,look,Sl.val,gO,Z1,Bool.not_true]
 have it:nZ (aa 6) [s0,s1,s2,.ow (r.map aj),s4,s5,.sh (ai v),s7,s8]=some (v.map fG,[s0,s1,s2,.ow (r.map aj),s4,s5,.sh (ai v),s7,s8]):=by
  show some (gv ⟨v.toArray⟩,_)=_
  rw[rG]
 have k:=f_ (js:=[none,some 3,some 6]) (c:=aL) it (zE r hr hN v hv v .no) (iG _ v) (by rw[eQ];omega)
 have bo:=gm (fun a=> !decide (NH.short (keep (v.filter fun k=> !decide (k=a)) r)=[])) v
 have al:(v.map fun a=> !decide (NH.short (keep (v.filter fun k=> !decide (k=a)) r)=[])).any id=false:=by
  rw[List.any_map]
  refine List.any_eq_false.mpr fun x hx=>?_
  simp only[Function.comp,id,b x hx,not_false_iff,bB]
 have c2:cN (bO qK (ad false (aP [none,some 3,some 6] (nZ (aa 6)) (aD 0) aL (q_ 1 2 0 aJ)) ah)) [s0,s1,s2,.ow (r.map aj),s4,s5,.sh (ai v),s7,s8]=some (false,[s0,s1,s2,.ow (r.map aj),s4,s5,.sh (ai v),s7,s8]):=by
  simp only[cN,bO,DR k,Z0,Z1,be,PL.look,Sl.val,qK,bo,al]
 unfold jj
 exact vY t1 c2
theorem DJ{E:List Sl}{t:iu}{b:Bool}(h:t E=some (b,E)):dv t E=some (!b,E):=by
 unfold dv
 rw[h]
 rfl
theorem BJ{a b:iu}{E:List Sl}{x y:Bool}(h:a E=some (x,E))(k:b E=some (y,E)):eR a b E=some (x&&y,E):=by
 unfold eR
 rw[h]
 cases x
 ·rfl
 ·exact k
theorem Cb(w:List Nat):∀(K:List (List Nat)) (x:Sl),(∀k∈K,k.length≤1000)→bW lh aL jk (K.map ai) [x,.sh (ai w)]=some (K.map fun k=>PyData.bool (decide (NhFam.le k w)))
 |[],x,_=>rfl
 |k::K,x,h=>by
  have e:jk [.sh (ai k),.sh (ai w)]=some (.sh (.bool (decide (NhFam.le k w))),[.sh (ai k),.sh (ai w)]):=aK (ss:=[.sh (ai k),.sh (ai w)]) rfl rfl (vk k w (h k (ir ..)))
  exact h9 (E1:=[.sh (ai k),.sh (ai w)]) rfl e (Cb w K _ fun v hv=>h v (g6 _ hv))
theorem E9(s0 s1 s2 s4 s7 s8 a:Sl){r:List Pc}(hr:r.length≤1000)(hN:NailsOk r){K:List (List Nat)}(hK:∀k∈K,k.length≤1000)(lK:K.length≤1000)(w:List Nat)(h:NH.short (keep w r)≠[]→(K.any fun k=>decide (NhFam.le k w))=true):(iE (ai w) [s0,s1,s2,.ow (r.map aj),s4,.ow (K.map ai),a,s7,s8]).bind iF=some ([s0,s1,s2,.ow (r.map aj),s4,.ow (K.map ai),.sh (ai w),s7,s8],.nx):=by
 have p:=oo r hr hN w
 have q1:ag aJ (ad false (aa 3) (ad false (aa 6) ah)) [s0,s1,s2,.ow (r.map aj),s4,.ow (K.map ai),.sh (ai w),s7,s8]=some (.sh (.bool (!decide (NH.short (keep w r)=[]))),[s0,s1,s2,.ow (r.map aj),s4,.ow (K.map ai),.sh (ai w),s7,s8]):=aK (ss:=[.al 3,.sh (ai w)]) rfl rfl p
 have t1:d_ (ag aJ (ad false (aa 3) (ad false (aa 6) ah))) [s0,s1,s2,.ow (r.map aj),s4,.ow (K.map ai),.sh (ai w),s7,s8]=some (!decide (NH.short (keep w r)=[]),[s0,s1,s2,.ow (r.map aj),s4,.ow (K.map ai),.sh (ai w),s7,s8]):=by
  simp only[d_,q1,Z0,look,Sl.val,gO,Z1]
 have k:=f_ (js:=[none,some 6]) (c:=aL) (it:=mD (aa 5)) (E:=[s0,s1,s2,.ow (r.map aj),s4,.ow (K.map ai),.sh (ai w),s7,s8]) rfl (Cb w K .no hK) (iG _ K) (by rw[eQ];omega)
 have bo:=gm (fun k=>decide (NhFam.le k w)) K
 have al:(K.map fun k=>decide (NhFam.le k w)).any id=K.any (fun k=>decide (NhFam.le k w)):=by rw[List.any_map];rfl
 have c1:d_ (bO qK (ad false (aP [none,some 6] (mD (aa 5)) lh aL jk) ah)) [s0,s1,s2,.ow (r.map aj),s4,.ow (K.map ai),.sh (ai w),s7,s8]=some (K.any (fun k=>decide (NhFam.le k w)),[s0,s1,s2,.ow (r.map aj),s4,.ow (K.map ai),.sh (ai w),s7,s8]):=by
  simp only[d_,bO,DR k,Z0,Z1,be,PL.look,Sl.val,qK,bo,al,gO]
 have f:((!decide (NH.short (keep w r)=[]))&& !K.any (fun k=>decide (NhFam.le k w)))=false:=by
  by_cases e:NH.short (keep w r)=[]
  ·simp[e]
  ·rw[h e]
   simp
 have c2:=BJ t1 (DJ c1)
 rw[f]at c2
 have tg:iE (ai w) [s0,s1,s2,.ow (r.map aj),s4,.ow (K.map ai),a,s7,s8]=some [s0,s1,s2,.ow (r.map aj),s4,.ow (K.map ai),.sh (ai w),s7,s8]:=rfl
 rw[tg,Option.bind_some,iF]
 exact mI c2 rfl
theorem Cc(s0 s1 s2 s4 s7 s8:Sl){r:List Pc}(hr:r.length≤1000)(hN:NailsOk r){K:List (List Nat)}(hK:∀k∈K,k.length≤1000)(lK:K.length≤1000):∀(F:List (List Nat)) (a:Sl),(∀w∈F,NH.short (keep w r)≠[]→(K.any fun k=>decide (NhFam.le k w))=true)→∃a',cw iE iF (F.map ai) [s0,s1,s2,.ow (r.map aj),s4,.ow (K.map ai),a,s7,s8]=some ([s0,s1,s2,.ow (r.map aj),s4,.ow (K.map ai),a',s7,s8],.nx)
 |[],a,_=>⟨a,rfl⟩
 |w::F,a,h=>by
  obtain⟨a',e⟩:=Cc s0 s1 s2 s4 s7 s8 hr hN hK lK F (.sh (ai w)) fun v hv=>h v (g6 _ hv)
  refine⟨a',?_⟩
  rw[ce,cw,E9 s0 s1 s2 s4 s7 s8 a hr hN hK lK w (h w (ir ..))]
  exact e
theorem Cd:∀(c:List Pc) (x:Sl),bW eZ aL dU (c.map aj) [x]=some ((c.map (·.1)).map fG)
 |[],x=>rfl
 |p::c,x=>by
  have e:dU [.sh (aj p)]=some (.sh (fG p.1),[.sh (aj p)]):=by
   simp only[dU,ae,aa,aj,Z2,Sl.isBr,pC,fU,look,Sl.val,eL,cE,Z0,iX,Z1,fG,bB]
  exact h9 (E1:=[.sh (aj p)]) rfl e (Cd c _)
theorem DK{w:List Nat}{c:List Pc}(k:CordW w c)(a:∀y∈w,az y):(cb (c.map (·.1))).length≤w.length:=by
 refine List.Nodup.length_le_of_subset (mK _) fun y hy=>?_
 obtain⟨p,hp,rfl⟩:=Zba.mp (inOrd_mem.mp hy).2
 exact(k p hp).1
theorem rJ{E:List Sl}{ds:List PyData}{f g:bL}{s1 s2:Sl}(hf:f E=some (s1,E))(hg:g E=some (s2,E))(l1:look E s1=some (.list ds))(l2:look E s2=some (.list ds))(h:wD (.list ds) (.list ds)=some true):cN (ae kH false f g) E=some (false,E):=by
 simp only[cN,ae,kH,eC,hf,hg,Z0,l1,l2,h,Z1,bB]
theorem wb{E:List Sl}{ds:List PyData}{f g:bL}{s1 s2:Sl}(hf:f E=some (s1,E))(hg:g E=some (s2,E))(l1:look E s1=some (.list ds))(l2:look E s2=some (.list ds))(h:wD (.list ds) (.list ds)=some true):ae fg false f g E=some (.sh (.bool true),E):=by
 simp only[ae,fg,eC,hf,hg,Z0,l1,l2,h,Z1,bB]
theorem zP{ns:List Int}{E:List Sl}{i:Int}{z d m:Int}(h:aB [.list (ns.map .int),.int i]=some (.sh (.int z)))(hE:E[0]? =some (.sh (.list (ns.map .int))))(hd:fI d=true)(hm:0 < m):ae bV false (ae ba false (ag aB (ad false (aa 0) (ad false (pC (.int i)) ah))) (pC (.int d))) (pC (.int m)) E=some (.sh (.int (z / d % m)),E):=by
 have c:ag aB (ad false (aa 0) (ad false (pC (.int i)) ah)) E=some (.sh (.int z),E):=aK (ss:=[.sh (.list (ns.map .int)),.sh (.int i)]) (Gd (by simp only[aa,hE,Z1]) rfl) rfl h
 exact zo (BA c rfl hd) rfl hm
theorem Ce{f:bL}{E:List Sl}{x k:Int}{a b:dN}{r:Option (List Sl×Fl)}(hf:f E=some (.sh (.int x),E))(h:(x=k∧a E=r)∨(x≠k∧b E=r)):aZ (cN (ae fg false f (pC (.int k)))) a b E=r:=by
 have c:cN (ae fg false f (pC (.int k))) E=some (decide (x=k),E):=zq hf rfl
 rcases h with⟨h,k⟩ |⟨h,k⟩
 ·rw[decide_eq_true h]at c;exact og c k
 ·rw[decide_eq_false h]at c;exact mI c k
theorem zQ:∀(F:List (List Nat)) (x:Sl),bW ji aL gX (F.map ai) [x]=some (F.map fun _=>PyData.bool true)
 |[],x=>rfl
 |w::F,x=>by
  have e:gX [.sh (ai w)]=some (.sh (.bool true),[.sh (ai w)]):=by
   unfold ai
   simp only[gX,iI,aa,Z2,look,Sl.val,nI,Ty.is,B3,Z1,Z0]
  exact h9 (E1:=[.sh (ai w)]) rfl e (zQ F _)
theorem DL(ns:List Int)(hl:ns.length≤63):kh [.list (ns.map .int)]=some (.sh (.bool true)):=by
 have a0:=jI ns 0
 have a1:=jI ns 1
 simp only[Int.natCast_zero]at a0
 have a1:aB [.list (ns.map .int),.int 1]=some (.sh (.int (ns.getD 1 0))):=a1
 generalize hz:ns.getD 1 0=z at a1
 have m0:=Int.emod_nonneg z (show(5:Int)≠0 by decide)
 have m1:=wd z (show(0:Int) < 5 by decide)
 generalize hsc:PyData.list (ns.map .int)=sc
 have k1:au 1 (ae aG false (pC (.int 1)) (ae bV false (ag aB (ad false (aa 0) (ad false (pC (.int 1)) ah))) (pC (.int 5)))) [.sh sc,.no,.no,.no,.no,.no,.no,.no,.no]=some ([.sh sc,.sh (.int (1+z % 5)),.no,.no,.no,.no,.no,.no,.no],.nx):=by
  have c:(ag aB (ad false (aa 0) (ad false (pC (.int 1)) ah))) [.sh sc,.no,.no,.no,.no,.no,.no,.no,.no]=some (.sh (.int z),[.sh sc,.no,.no,.no,.no,.no,.no,.no,.no]):=aK (ss:=[.sh (.list (ns.map .int)),.sh (.int 1)]) (by rw[hsc];rfl) rfl a1
  have c2:ae aG false (pC (.int 1)) (ae bV false (ag aB (ad false (aa 0) (ad false (pC (.int 1)) ah))) (pC (.int 5))) [.sh sc,.no,.no,.no,.no,.no,.no,.no,.no]=some (.sh (.int (1+z % 5)),[.sh sc,.no,.no,.no,.no,.no,.no,.no,.no]):=tX rfl (zo c rfl (by decide))
  exact mi c2 (show 1 < 9 by decide)
 obtain⟨many,k2,n1,n2⟩:∃many:Nat,(aZ (cN (ae fg false (ae bV false (ae ba false (ag aB (ad false (aa 0) (ad false (pC (.int 1)) ah))) (pC (.int 5))) (pC (.int 8))) (pC (.int 3)))) (au 1 (pC (.int 6))) aO) [.sh sc,.sh (.int (1+z % 5)),.no,.no,.no,.no,.no,.no,.no]=some ([.sh sc,.sh (.int many),.no,.no,.no,.no,.no,.no,.no],.nx)∧1≤many∧many≤6:=by
  have E0:([.sh sc,.sh (.int (1+z % 5)),.no,.no,.no,.no,.no,.no,.no]:List Sl)[0]? =some (.sh (.list (ns.map .int))):=by rw[hsc];rfl
  by_cases h:z / 5 % 8=3
  ·exact⟨6,Ce (zP a1 E0 (by decide) (by decide)) (.inl ⟨h,rfl⟩),by decide,by decide⟩
  ·exact⟨(1+z % 5).toNat,Ce (zP a1 E0 (by decide) (by decide)) (.inr ⟨h,by rw[show(((1+z % 5).toNat:Nat):Int)=1+z % 5 by omega];rfl⟩),by omega,by omega⟩
 obtain⟨w,ew,lw,aw⟩:=oM (ns.getD 0 0) many (by omega)
 obtain⟨c,ec,lc,kw⟩:=tT ns w (by omega) (by omega) aw 2 40 (by omega) (by omega)
 have kc:=kw.L aw
 have fw:=DK kw aw
 generalize hV:cb (c.map (·.1))=V at fw
 obtain⟨H,pf,ph,pm,pb,hh,lf⟩:=zO kc (by omega) hV.symm (by omega)
 have lH:H.length≤190:=(hh.wrt (by omega)).len
 have tH:∀v∈H,v.length≤1000:=fun v hv=>by have:=(hh.wrt (by omega)).tl v hv;omega
 have azH:∀v∈H,∀a∈v,az a:=fun v hv=>hh.u.azw (hh.told.sub v hv)
 have azL:∀v∈bI c V,∀a∈v,az a:=fun v hv=>hh.u.azw ((mn hh.u.srt).sub v hv)
 have dH:=zN azH
 have dL:=zN azL
 have dq:=sU kc.n kc.n
 rw[decide_eq_true rfl]at dq
 have lr:=NH.wB c
 have kr:NailsOk (NH.short c):=kc.n.short
 have sr:=lq c (by omega) kc.n
 have lc':(c.map aj).length≤1000000:=by rw[eQ];omega
 have lH':(H.map ai).length≤1000000:=by rw[eQ];omega
 have lL':((bI c V).map ai).length≤1000000:=by rw[eQ];omega
 have ec':bU [sc,.int 2,.list (w.map fG),.int 40]=some (.ow (c.map aj)):=by rw[←hsc];exact ec
 have a0':aB [sc,.int 0]=some (.sh (.int (ns.getD 0 0))):=by rw[←hsc];exact a0
 have k3:au 2 (ag bU (ad false (aa 0) (ad false (pC (.int 2)) (ad false (ag cc (ad false (ag aB (ad false (aa 0) (ad false (pC (.int 0)) ah))) (ad false (aa 1) ah))) (ad false (pC (.int 40)) ah))))) [.sh sc,.sh (.int many),.no,.no,.no,.no,.no,.no,.no]=some ([.sh sc,.sh (.int many),.ow (c.map aj),.no,.no,.no,.no,.no,.no],.nx):=by
  have q1:ag aB (ad false (aa 0) (ad false (pC (.int 0)) ah)) [.sh sc,.sh (.int many),.no,.no,.no,.no,.no,.no,.no]=some (.sh (.int (ns.getD 0 0)),[.sh sc,.sh (.int many),.no,.no,.no,.no,.no,.no,.no]):=aK (ss:=[.sh sc,.sh (.int 0)]) rfl rfl a0'
  have q2:(ag cc (ad false (ag aB (ad false (aa 0) (ad false (pC (.int 0)) ah))) (ad false (aa 1) ah))) [.sh sc,.sh (.int many),.no,.no,.no,.no,.no,.no,.no]=some (.ow (w.map fG),[.sh sc,.sh (.int many),.no,.no,.no,.no,.no,.no,.no]):=aK (ss:=[.sh (.int (ns.getD 0 0)),.sh (.int many)]) (Gd q1 rfl) rfl ew
  refine rH (ss:=[.sh sc,.sh (.int 2),.ow (w.map fG),.sh (.int 40)]) ?_ rfl ec' (show 2 < 9 by decide) rfl
  generalize (ag cc (ad false (ag aB (ad false (aa 0) (ad false (pC (.int 0)) ah))) (ad false (aa 1) ah)))=fq at q2 ⊢
  simp only[ad,ah,aa,pC,q2,Z0,Z1,Z2,bB]
 have k4:au 3 (ag bS (ad false (aa 2) ah)) [.sh sc,.sh (.int many),.ow (c.map aj),.no,.no,.no,.no,.no,.no]=some ([.sh sc,.sh (.int many),.ow (c.map aj),.ow ((NH.short c).map aj),.no,.no,.no,.no,.no],.nx):=rH (ss:=[.al 2]) rfl rfl sr (show 3 < 9 by decide) rfl
 have k5:au 4 (eD (aa 2)) [.sh sc,.sh (.int many),.ow (c.map aj),.ow ((NH.short c).map aj),.no,.no,.no,.no,.no]=some ([.sh sc,.sh (.int many),.ow (c.map aj),.ow ((NH.short c).map aj),.ow (c.map aj),.no,.no,.no,.no],.nx):=by
  simp only[au,eD,aa,Z3,Z2,look,Sl.val,eL,cE,Z0,mM,dS,Bool.or_true,PL.settle,frz,frzAll,Z4,Z5,Nat.reduceAdd,Nat.reduceLT,Z7,Z6,bB]
 have k6:au 5 (ag bt (ad false (aa 4) ah)) [.sh sc,.sh (.int many),.ow (c.map aj),.ow ((NH.short c).map aj),.ow (c.map aj),.no,.no,.no,.no]=some ([.sh sc,.sh (.int many),.ow (c.map aj),.ow ((NH.short c).map aj),.ow (c.map aj),.ow (H.map ai),.no,.no,.no],.nx):=rH (ss:=[.al 4]) rfl rfl ph (show 5 < 9 by decide) rfl
 have k7:(aZ (iJ (dv (d_ (iI (nI .list) (aa 5)))) (iJ (cN (ae kH false (aa 4) (aa 2))) (dv (d_ (bO sH (ad false (aP [none] (mD (aa 5)) ji aL gX) ah)))))) (aM (pC (.bool false))) aO) [.sh sc,.sh (.int many),.ow (c.map aj),.ow ((NH.short c).map aj),.ow (c.map aj),.ow (H.map ai),.no,.no,.no]=some ([.sh sc,.sh (.int many),.ow (c.map aj),.ow ((NH.short c).map aj),.ow (c.map aj),.ow (H.map ai),.no,.no,.no],.nx):=by
  have o1:dv (d_ (iI (nI .list) (aa 5))) [.sh sc,.sh (.int many),.ow (c.map aj),.ow ((NH.short c).map aj),.ow (c.map aj),.ow (H.map ai),.no,.no,.no]=some (false,[.sh sc,.sh (.int many),.ow (c.map aj),.ow ((NH.short c).map aj),.ow (c.map aj),.ow (H.map ai),.no,.no,.no]):=by simp only[dv,d_,iI,aa,Z3,Z2,look,Sl.val,nI,Ty.is,B3,Z1,Z0,gO,Bool.not_true]
  have o2:cN (ae kH false (aa 4) (aa 2)) [.sh sc,.sh (.int many),.ow (c.map aj),.ow ((NH.short c).map aj),.ow (c.map aj),.ow (H.map ai),.no,.no,.no]=some (false,[.sh sc,.sh (.int many),.ow (c.map aj),.ow ((NH.short c).map aj),.ow (c.map aj),.ow (H.map ai),.no,.no,.no]):=rJ (s1:=.al 4) (s2:=.al 2) rfl rfl rfl rfl dq
  have k:=f_ (js:=[none]) (it:=mD (aa 5)) (c:=aL) (E:=[.sh sc,.sh (.int many),.ow (c.map aj),.ow ((NH.short c).map aj),.ow (c.map aj),.ow (H.map ai),.no,.no,.no]) rfl (zQ H .no) (iG (fun _=>true) H) (by rw[eQ];omega)
  have bo:=gm (fun _:List Nat=>true) H
  have al:(H.map fun _=>true).all id=true:=by simp
  have o3:dv (d_ (bO sH (ad false (aP [none] (mD (aa 5)) ji aL gX) ah))) [.sh sc,.sh (.int many),.ow (c.map aj),.ow ((NH.short c).map aj),.ow (c.map aj),.ow (H.map ai),.no,.no,.no]=some (false,[.sh sc,.sh (.int many),.ow (c.map aj),.ow ((NH.short c).map aj),.ow (c.map aj),.ow (H.map ai),.no,.no,.no]):=by
   simp only[dv,d_,bO,DR k,Z0,Z1,be,PL.look,Sl.val,sH,bo,al,gO,Bool.not_true]
  exact mI (vY o1 (vY o2 o3)) rfl
 obtain⟨x6,k8⟩:∃x,pT 5 6 jj (aM (pC (.bool false))) [.sh sc,.sh (.int many),.ow (c.map aj),.ow ((NH.short c).map aj),.ow (c.map aj),.ow (H.map ai),.no,.no,.no]=some ([.sh sc,.sh (.int many),.ow (c.map aj),.ow ((NH.short c).map aj),.ow (c.map aj),.ow (H.map ai),x,.no,.no],.nx):=by
  refine Bo (E:=[.sh sc,.sh (.int many),.ow (c.map aj),.ow ((NH.short c).map aj),.ow (c.map aj),.ow (H.map ai),.no,.no,.no]) (i:=5) (t:=6) (ds:=H.map ai) rfl (by decide) (show 6 < 9 by decide) fun d hd=>?_
  obtain⟨v,hv,rfl⟩:=Zba.mp hd
  refine E8 (.sh sc) (.sh (.int many)) (.ow (c.map aj)) (.ow (c.map aj)) (.ow (H.map ai)) .no .no (r:=NH.short c) (by omega) kr (tH v hv) ?_ fun x hx=>?_
  ·rw[kA];exact hh.one hv
  ·rw[kA];exact hh.less hv hx
 have sV:=hh.u.srt
 obtain⟨x7,k9⟩:∃x,eS (aW (ag cJ (ad false (de (aP [none] (aW (aa 2)) eZ aL dU)) ah))) iE iF [.sh sc,.sh (.int many),.ow (c.map aj),.ow ((NH.short c).map aj),.ow (c.map aj),.ow (H.map ai),x6,.no,.no]=some ([.sh sc,.sh (.int many),.sh (.list (c.map aj)),.ow ((NH.short c).map aj),.ow (c.map aj),.ow (H.map ai),x,.no,.no],.nx):=by
  have cm:=f_ (js:=[none]) (it:=aW (aa 2)) (c:=aL) (E:=[.sh sc,.sh (.int many),.ow (c.map aj),.ow ((NH.short c).map aj),.ow (c.map aj),.ow (H.map ai),x6,.no,.no]) (E1:=[.sh sc,.sh (.int many),.sh (.list (c.map aj)),.ow ((NH.short c).map aj),.ow (c.map aj),.ow (H.map ai),x6,.no,.no]) rfl (Cd c .no) (lm _) (by simp;omega)
  have d:=ly (w:=c.map (·.1)) fun y hy=>jv (kc.az y hy)
  have d2:((c.map (·.1)).map fR).length < 4000∧(i7 ((c.map (·.1)).map fR)).length < 64:=⟨by simp;omega,vm (rB fun y hy=>jv (kc.az y hy)) (by decide)⟩
  have so:(de (aP [none] (aW (aa 2)) eZ aL dU)) [.sh sc,.sh (.int many),.ow (c.map aj),.ow ((NH.short c).map aj),.ow (c.map aj),.ow (H.map ai),x6,.no,.no]=some (.ow (V.map fG),[.sh sc,.sh (.int many),.sh (.list (c.map aj)),.ow ((NH.short c).map aj),.ow (c.map aj),.ow (H.map ai),x6,.no,.no]):=by
   have e:(((cb (c.map (·.1))).map fR).map PyData.str)=V.map fG:=by rw[hV,List.map_map];rfl
   unfold de
   simp only[cm,Z0,look,Sl.val,oj]
   rw[if_pos d2,d,e]
  have ls:=t_ (V:=V) ⟨sV,hh.u.lt,hh.u.len⟩
  have ar:ad false (de (aP [none] (aW (aa 2)) eZ aL dU)) ah [.sh sc,.sh (.int many),.ow (c.map aj),.ow ((NH.short c).map aj),.ow (c.map aj),.ow (H.map ai),x6,.no,.no]=some ([.ow (V.map fG)],[.sh sc,.sh (.int many),.sh (.list (c.map aj)),.ow ((NH.short c).map aj),.ow (c.map aj),.ow (H.map ai),x6,.no,.no]):=by
   generalize (de (aP [none] (aW (aa 2)) eZ aL dU))=f at so ⊢
   simp only[ad,ah,so,Z0,Z1,bB]
  have ca:ag cJ (ad false (de (aP [none] (aW (aa 2)) eZ aL dU)) ah) [.sh sc,.sh (.int many),.ow (c.map aj),.ow ((NH.short c).map aj),.ow (c.map aj),.ow (H.map ai),x6,.no,.no]=some (.ow ((NhFam.fk V).map ai),[.sh sc,.sh (.int many),.sh (.list (c.map aj)),.ow ((NH.short c).map aj),.ow (c.map aj),.ow (H.map ai),x6,.no,.no]):=aK ar rfl ls
  have it:aW (ag cJ (ad false (de (aP [none] (aW (aa 2)) eZ aL dU)) ah)) [.sh sc,.sh (.int many),.ow (c.map aj),.ow ((NH.short c).map aj),.ow (c.map aj),.ow (H.map ai),x6,.no,.no]=some ((NhFam.fk V).map ai,[.sh sc,.sh (.int many),.sh (.list (c.map aj)),.ow ((NH.short c).map aj),.ow (c.map aj),.ow (H.map ai),x6,.no,.no]):=by
   generalize ag cJ (ad false (de (aP [none] (aW (aa 2)) eZ aL dU)) ah)=f at ca ⊢
   unfold aW
   rw[ca]
   rfl
  obtain⟨a',e⟩:=Cc (.sh sc) (.sh (.int many)) (.sh (.list (c.map aj))) (.ow (c.map aj)) .no .no (r:=NH.short c) (by omega) kr tH (by omega) (NhFam.fk V) x6 fun v hv n=>by
   rw[kA]at n
   exact hh.any ((NhFam.gg sV).mp hv) n
  refine⟨a',?_⟩
  unfold eS
  rw[it,Option.bind_some]
  exact e
 have k10:au 7 (ag aN (ad false (aa 4) ah)) [.sh sc,.sh (.int many),.sh (.list (c.map aj)),.ow ((NH.short c).map aj),.ow (c.map aj),.ow (H.map ai),x7,.no,.no]=some ([.sh sc,.sh (.int many),.sh (.list (c.map aj)),.ow ((NH.short c).map aj),.ow (c.map aj),.ow (H.map ai),x7,.ow ((bI c V).map ai),.no],.nx):=rH (ss:=[.al 4]) rfl rfl pf (show 7 < 9 by decide) rfl
 have k11:aZ (iJ (cN (ae kH false (ag aE (ad false (eD (aa 7)) ah)) (aa 5))) (cN (ae kH false (ag aE (ad false (eD (aa 5)) ah)) (aa 7)))) (aM (pC (.bool false))) aO [.sh sc,.sh (.int many),.sh (.list (c.map aj)),.ow ((NH.short c).map aj),.ow (c.map aj),.ow (H.map ai),x7,.ow ((bI c V).map ai),.no]=some ([.sh sc,.sh (.int many),.sh (.list (c.map aj)),.ow ((NH.short c).map aj),.ow (c.map aj),.ow (H.map ai),x7,.ow ((bI c V).map ai),.no],.nx):=by
  have g1:eD (aa 7) [.sh sc,.sh (.int many),.sh (.list (c.map aj)),.ow ((NH.short c).map aj),.ow (c.map aj),.ow (H.map ai),x7,.ow ((bI c V).map ai),.no]=some (.ow ((bI c V).map ai),[.sh sc,.sh (.int many),.sh (.list (c.map aj)),.ow ((NH.short c).map aj),.ow (c.map aj),.ow (H.map ai),x7,.ow ((bI c V).map ai),.no]):=by simp only[eD,aa,Z3,Z2,look,Sl.val,eL,cE,Z0,mM,bB]
  have g2:eD (aa 5) [.sh sc,.sh (.int many),.sh (.list (c.map aj)),.ow ((NH.short c).map aj),.ow (c.map aj),.ow (H.map ai),x7,.ow ((bI c V).map ai),.no]=some (.ow (H.map ai),[.sh sc,.sh (.int many),.sh (.list (c.map aj)),.ow ((NH.short c).map aj),.ow (c.map aj),.ow (H.map ai),x7,.ow ((bI c V).map ai),.no]):=by simp only[eD,aa,Z3,Z2,look,Sl.val,eL,cE,Z0,mM,bB]
  have q1:(ag aE (ad false (eD (aa 7)) ah)) [.sh sc,.sh (.int many),.sh (.list (c.map aj)),.ow ((NH.short c).map aj),.ow (c.map aj),.ow (H.map ai),x7,.ow ((bI c V).map ai),.no]=some (.ow (H.map ai),[.sh sc,.sh (.int many),.sh (.list (c.map aj)),.ow ((NH.short c).map aj),.ow (c.map aj),.ow (H.map ai),x7,.ow ((bI c V).map ai),.no]):=aK (ss:=[.ow ((bI c V).map ai)]) (DR g1) rfl pm
  have q2:(ag aE (ad false (eD (aa 5)) ah)) [.sh sc,.sh (.int many),.sh (.list (c.map aj)),.ow ((NH.short c).map aj),.ow (c.map aj),.ow (H.map ai),x7,.ow ((bI c V).map ai),.no]=some (.ow ((bI c V).map ai),[.sh sc,.sh (.int many),.sh (.list (c.map aj)),.ow ((NH.short c).map aj),.ow (c.map aj),.ow (H.map ai),x7,.ow ((bI c V).map ai),.no]):=aK (ss:=[.ow (H.map ai)]) (DR g2) rfl pb
  have o1:=rJ (E:=[.sh sc,.sh (.int many),.sh (.list (c.map aj)),.ow ((NH.short c).map aj),.ow (c.map aj),.ow (H.map ai),x7,.ow ((bI c V).map ai),.no]) (g:=aa 5) (s2:=.al 5) q1 rfl rfl rfl dH
  have o2:=rJ (E:=[.sh sc,.sh (.int many),.sh (.list (c.map aj)),.ow ((NH.short c).map aj),.ow (c.map aj),.ow (H.map ai),x7,.ow ((bI c V).map ai),.no]) (g:=aa 7) (s2:=.al 7) q2 rfl rfl rfl dL
  exact mI (vY o1 o2) rfl
 have k12:au 8 (eD (aa 5)) [.sh sc,.sh (.int many),.sh (.list (c.map aj)),.ow ((NH.short c).map aj),.ow (c.map aj),.ow (H.map ai),x7,.ow ((bI c V).map ai),.no]=some ([.sh sc,.sh (.int many),.sh (.list (c.map aj)),.ow ((NH.short c).map aj),.ow (c.map aj),.ow (H.map ai),x7,.ow ((bI c V).map ai),.ow (H.map ai)],.nx):=by
  simp only[au,eD,aa,Z3,Z2,look,Sl.val,eL,cE,Z0,mM,PL.settle,frz,frzAll,Z4,Z5,Nat.reduceAdd,Nat.reduceLT,Z7,Z6,bB]
 have lb:H.length < 1000000:=by omega
 have k13:cg (bb 5 (pC (.str ""))) [.sh sc,.sh (.int many),.sh (.list (c.map aj)),.ow ((NH.short c).map aj),.ow (c.map aj),.ow (H.map ai),x7,.ow ((bI c V).map ai),.ow (H.map ai)]=some ([.sh sc,.sh (.int many),.sh (.list (c.map aj)),.ow ((NH.short c).map aj),.ow (c.map aj),.ow (H.map ai++[.str ""]),x7,.ow ((bI c V).map ai),.ow (H.map ai)],.nx):=by
  simp only[cg,bb,Z3,Z2,pC,frz,Z0,eQ,lb,Z7,Z6,if_true,Z1]
 have q14:ag bt (ad false (aa 4) ah) [.sh sc,.sh (.int many),.sh (.list (c.map aj)),.ow ((NH.short c).map aj),.ow (c.map aj),.ow (H.map ai++[.str ""]),x7,.ow ((bI c V).map ai),.ow (H.map ai)]=some (.ow (H.map ai),[.sh sc,.sh (.int many),.sh (.list (c.map aj)),.ow ((NH.short c).map aj),.ow (c.map aj),.ow (H.map ai++[.str ""]),x7,.ow ((bI c V).map ai),.ow (H.map ai)]):=aK (ss:=[.al 4]) rfl rfl ph
 have e1:=wb (E:=[.sh sc,.sh (.int many),.sh (.list (c.map aj)),.ow ((NH.short c).map aj),.ow (c.map aj),.ow (H.map ai++[.str ""]),x7,.ow ((bI c V).map ai),.ow (H.map ai)]) (g:=aa 8) (s2:=.al 8) q14 rfl rfl rfl dH
 have e2:=wb (E:=[.sh sc,.sh (.int many),.sh (.list (c.map aj)),.ow ((NH.short c).map aj),.ow (c.map aj),.ow (H.map ai++[.str ""]),x7,.ow ((bI c V).map ai),.ow (H.map ai)]) (f:=aa 4) (g:=aa 2) (s1:=.al 4) (s2:=.sh (.list (c.map aj))) rfl rfl rfl rfl dq
 have k14:nD (ae fg false (ag bt (ad false (aa 4) ah)) (aa 8)) (ae fg false (aa 4) (aa 2)) [.sh sc,.sh (.int many),.sh (.list (c.map aj)),.ow ((NH.short c).map aj),.ow (c.map aj),.ow (H.map ai++[.str ""]),x7,.ow ((bI c V).map ai),.ow (H.map ai)]=some (.sh (.bool true),[.sh sc,.sh (.int many),.sh (.list (c.map aj)),.ow ((NH.short c).map aj),.ow (c.map aj),.ow (H.map ai++[.str ""]),x7,.ow ((bI c V).map ai),.ow (H.map ai)]):=by
  simp only[nD,e1,Z0,look,Sl.val,gO,e2,if_true,Z1]
 have g:kh [sc]=(tJ [.sh sc,.no,.no,.no,.no,.no,.no,.no,.no]).bind fun a=>match a.2 with |.rt r=>cn r |.nx=>some (.sh .none) |_=>none:=rfl
 rw[g,tJ,aT k1,aT k2,aT k3,aT k4,aT k5,aT k6,aT k7,aT k8,aT k9,aT k10,aT k11,aT k12,aT k13]
 simp only[aM,k14,Z0,Z1,cn,bC,cS,if_true]
end Nhk36
namespace Nhk36
open PySem L2 Nh PL
open PySem.W (nsIn codeIn keepIn fnOf)
theorem iV{fd:FuncData}{xs:List Str}(h:∀a0,bindArgs fd ⟨[a0],[]⟩=pure (xs.zip [a0])):∀us:List Value,us.length=1→bindArgs fd ⟨us,[]⟩=pure (xs.zip us)
 |[a0],_=>h a0
theorem rK{fd:FuncData}{xs:List Str}(h:∀a0 a1,bindArgs fd ⟨[a0,a1],[]⟩=pure (xs.zip [a0,a1])):∀us:List Value,us.length=2→bindArgs fd ⟨us,[]⟩=pure (xs.zip us)
 |[a0,a1],_=>h a0 a1
theorem FX{fd:FuncData}{xs:List Str}(h:∀a0 a1 a2,bindArgs fd ⟨[a0,a1,a2],[]⟩=pure (xs.zip [a0,a1,a2])):∀us:List Value,us.length=3→bindArgs fd ⟨us,[]⟩=pure (xs.zip us)
 |[a0,a1,a2],_=>h a0 a1 a2
theorem E_{fd:FuncData}{xs:List Str}(h:∀a0 a1 a2 a3,bindArgs fd ⟨[a0,a1,a2,a3],[]⟩=pure (xs.zip [a0,a1,a2,a3])):∀us:List Value,us.length=4→bindArgs fd ⟨us,[]⟩=pure (xs.zip us)
 |[a0,a1,a2,a3],_=>h a0 a1 a2 a3
abbrev HD(K:Frag)(n:Str)(st:Stmt):Prop:=∃(f:Addr) (oc:Value) (od an:Option Addr) (sl:Array (Option Value)) (kV dc pm cd ct:Value),nsIn K mainGlobals n=some (some (.ref f))∧K.lookup f=some ⟨oc,od,.func (fnOf n n (eN st) (cQ st) (ao st) .none kV dc pm an cd ct),sl⟩∧codeIn K cd n=true∧keepIn K (.ref f)=true
theorem Fa{K:Frag}{n:Str}{st:Stmt}{f:Addr}{oc:Value}{od an:Option Addr}{sl:Array (Option Value)}{kV dc pm cd ct:Value}(a:nsIn K mainGlobals n=some (some (.ref f)))(l:K.lookup f=some ⟨oc,od,.func (fnOf n n (eN st) (cQ st) (ao st) .none kV dc pm an cd ct),sl⟩)(c:codeIn K cd n=true)(k:keepIn K (.ref f)=true):HD K n st:=⟨f,oc,od,an,sl,kV,dc,pm,cd,ct,a,l,c,k⟩
theorem cR{K:Frag}{h:Heap}{mg:Str→Option Value}{x:Str}{st:Stmt}{ps:List Str}(d:HD K x st)(X:K.In h)(G:h.Ns mainGlobals mg)(b:∀(kV doc pm:Value) (an:Option Addr) (cdv ct:Value) (us:List Value),us.length=ps.length→bindArgs (fnOf x x (eN st) (cQ st) (ao st) .none kV doc pm an cdv ct) ⟨us,[]⟩=pure (ps.zip us)):Def K mg x st ps:=by
 obtain⟨f,oc,od,an,sl,kV,dc,pm,cd,ct,a,l,c,k⟩:=d
 exact CS X G a l c k b
theorem DM {l:OpenLaw} {w:World} {K:Frag} {h:Heap} {mg:Str→Option Value} {fa:Addr} (X:K.In h) (G:h.Ns mainGlobals mg) (hfa:mg "law"=some (.ref fa)) (B:Bn mg)
  (d1:HD K "is_nail" lY)
  (d2:HD K "short_form" iR)
  (d3:HD K "is_fall" lZ)
  (d4:HD K "set_of" n3)
  (d5:HD K "nails_of" ki)
  (d6:HD K "without" l5)
  (d7:HD K "falls_without" gw)
  (d8:HD K "bits_of" l_)
  {f9:Addr} {od9 an9:Option Addr} {sl9:Array (Option Value)} {oc9 kV9 dc9 pm9 ct9:Value}
  {cT PT:Addr} {vsT:Array Value} {ocT:Value} {odT:Option Addr} {slT:Array (Option Value)} (a9:nsIn K mainGlobals "in_told_order"=some (some (.ref f9))) (l9:K.lookup f9=some ⟨oc9,od9,.func (fnOf "in_told_order" "in_told_order" (eN c7) (cQ c7) (ao c7) .none kV9 dc9 pm9 an9 (.ref cT) ct9),sl9⟩) (c9:codeIn K (.ref cT) "in_told_order"=true) (k9:keepIn K (.ref f9)=true)
  (t1:K.lookup cT=some ⟨ocT,odT,.fields vsT,slT⟩) (t2:(vsT[11]? :Option Value)=some (.ref PT)) (t3:codeHdIn K cT PT=true)
  (d10:HD K "has_part_among" fQ)
  (d11:HD K "meets_each" iS)
  (d12:HD K "least_of" kj)
  (d13:HD K "all_sets" kl)
  (d14:HD K "check_many" iT)
  (d15:HD K "nails_among" ip)
  (d16:HD K "least_sets" iU)
  (d17:HD K "meeting_sets" gY)
  (d18:HD K "falling_sets" gZ)
  (d19:HD K "holding_sets" g5)
  (d20:HD K "_law_at" n8)
  (d21:HD K "_law_stir" km)
  (d22:HD K "_law_nails" jl)
  (d23:HD K "_law_back" kn)
  (d24:HD K "_law_turns" jm)
  (d25:HD K "_law_by_digits" gy)
  (d26:HD K "_law_built" jn)
  (d27:HD K "_law_cord" kq)
  (d28:HD K "_law_short" jr)
  (d29:HD K "_law_holds" jt)
  (d30:HD K "_law_sets" kt)
  (d31:HD K "_law_is_part" iq)
  (d32:HD K "law" oe)
  {t_LETTERS:Tok} (g_LETTERS:nsIn K mainGlobals "LETTERS"=some (some (.str "abcdefghijklmnopqrstuvwxyz" t_LETTERS)))
  {t_MOST_NAILS:Tok} (g_MOST_NAILS:nsIn K mainGlobals "MOST_NAILS"=some (some (.int 10 t_MOST_NAILS))):
  ∃fd:FuncData,(∀(s:Shared) (v:Value),BindsTo s fd ⟨[v],[]⟩ [("_law_script",v)])∧∀base:Heap,K.In base→base.Ns mainGlobals mg→FnOk l.prog w K mg base wA 7 fa fd ["_law_script"] (du K kh):=by
 obtain⟨f0,oc0,od0,an0,sl0,kV0,dc0,pm0,cd0,ct0,a0,l0,c0,k0⟩:=d32
 have e:=hfa.symm.trans (mg_of X G a0)
 cases e
 have F0:=uu (st:=oe) l0 c0 k0
 have G_LETTERS:=mg_of X G g_LETTERS
 have G_MOST_NAILS:=mg_of X G g_MOST_NAILS
 have e_in_told_order:DefT K mg "in_told_order" c7 ["sets"] cT PT:=⟨⟨f9,_,_,_,_,_,_,_,_,l9,c9,k9,mg_of X G a9,.all (fun us hl=>iV (fun _=>rfl) us hl)⟩,t3,yX a9 l9 rfl t1 t2⟩
 refine⟨fnOf "law" "law" (eN oe) (cQ oe) (ao oe) .none kV0 dc0 pm0 an0 cd0 ct0,fun s v=>.of_eq rfl,fun base _ _=>?_⟩
 have D_is_nail:=u8 (P:=l.prog) (w:=w) (base:=base) (cR d1 X G fun _ _ _ _ _ _=>iV fun _=>rfl) B
 have D_short_form:=oF (P:=l.prog) (w:=w) (base:=base) (cR d2 X G fun _ _ _ _ _ _=>iV fun _=>rfl) B
 have D_is_fall:=u_ (P:=l.prog) (w:=w) (base:=base) (cR d3 X G fun _ _ _ _ _ _=>iV fun _=>rfl) B D_short_form
 have D_set_of:=xp (P:=l.prog) (w:=w) (base:=base) (cR d4 X G fun _ _ _ _ _ _=>iV fun _=>rfl) B D_is_nail
 have D_nails_of:=tL (P:=l.prog) (w:=w) (base:=base) (cR d5 X G fun _ _ _ _ _ _=>iV fun _=>rfl) B
 have D_without:=va (P:=l.prog) (w:=w) (base:=base) (cR d6 X G fun _ _ _ _ _ _=>rK fun _ _=>rfl) B D_set_of
 have D_falls_without:=l8 (P:=l.prog) (w:=w) (base:=base) (cR d7 X G fun _ _ _ _ _ _=>rK fun _ _=>rfl) B D_without D_is_fall
 have D_bits_of:=vc (P:=l.prog) (w:=w) (base:=base) (cR d8 X G fun _ _ _ _ _ _=>iV fun _=>rfl) B G_LETTERS
 have D_in_told_order:=md (P:=l.prog) (w:=w) (base:=base) e_in_told_order B
 have D_has_part_among:=lj (P:=l.prog) (w:=w) (base:=base) (cR d10 X G fun _ _ _ _ _ _=>rK fun _ _=>rfl) B
 have D_meets_each:=oG (P:=l.prog) (w:=w) (base:=base) (cR d11 X G fun _ _ _ _ _ _=>rK fun _ _=>rfl) B
 have D_least_of:=tM (P:=l.prog) (w:=w) (base:=base) (cR d12 X G fun _ _ _ _ _ _=>iV fun _=>rfl) B D_in_told_order D_bits_of D_has_part_among
 have D_all_sets:=tN (P:=l.prog) (w:=w) (base:=base) (cR d13 X G fun _ _ _ _ _ _=>iV fun _=>rfl) B
 have D_check_many:=oI (P:=l.prog) (w:=w) (base:=base) (cR d14 X G fun _ _ _ _ _ _=>iV fun _=>rfl) B G_MOST_NAILS
 have D_nails_among:=n6 (P:=l.prog) (w:=w) (base:=base) (cR d15 X G fun _ _ _ _ _ _=>iV fun _=>rfl) B D_set_of
 have D_least_sets:=oK (P:=l.prog) (w:=w) (base:=base) (cR d16 X G fun _ _ _ _ _ _=>iV fun _=>rfl) B D_set_of D_least_of
 have D_meeting_sets:=mR (P:=l.prog) (w:=w) (base:=base) (cR d17 X G fun _ _ _ _ _ _=>iV fun _=>rfl) B D_least_sets D_bits_of D_nails_among D_check_many D_all_sets D_meets_each D_least_of
 have D_falling_sets:=mS (P:=l.prog) (w:=w) (base:=base) (cR d18 X G fun _ _ _ _ _ _=>iV fun _=>rfl) B D_nails_of D_check_many D_all_sets D_falls_without D_least_of
 have D_holding_sets:=mU (P:=l.prog) (w:=w) (base:=base) (cR d19 X G fun _ _ _ _ _ _=>iV fun _=>rfl) B D_falling_sets D_meeting_sets
 have D_law_at:=xr (P:=l.prog) (w:=w) (base:=base) (cR d20 X G fun _ _ _ _ _ _=>rK fun _ _=>rfl) B
 have D_law_stir:=tO (P:=l.prog) (w:=w) (base:=base) (cR d21 X G fun _ _ _ _ _ _=>rK fun _ _=>rfl) B
 have D_law_nails:=rc (P:=l.prog) (w:=w) (base:=base) (cR d22 X G fun _ _ _ _ _ _=>rK fun _ _=>rfl) B
 have D_law_back:=tP (P:=l.prog) (w:=w) (base:=base) (cR d23 X G fun _ _ _ _ _ _=>iV fun _=>rfl) B
 have D_law_turns:=rf (P:=l.prog) (w:=w) (base:=base) (cR d24 X G fun _ _ _ _ _ _=>iV fun _=>rfl) B
 have D_law_by_digits:=me (P:=l.prog) (w:=w) (base:=base) (cR d25 X G fun _ _ _ _ _ _=>FX fun _ _ _=>rfl) B
 have D_law_built:=rh (P:=l.prog) (w:=w) (base:=base) (cR d26 X G fun _ _ _ _ _ _=>E_ fun _ _ _ _=>rfl) B D_law_at D_law_stir D_law_turns D_law_back
 have D_law_cord:=tQ (P:=l.prog) (w:=w) (base:=base) (cR d27 X G fun _ _ _ _ _ _=>E_ fun _ _ _ _=>rfl) B D_law_at D_law_by_digits D_law_built
 have D_law_short:=rj (P:=l.prog) (w:=w) (base:=base) (cR d28 X G fun _ _ _ _ _ _=>iV fun _=>rfl) B
 have D_law_holds:=rn (P:=l.prog) (w:=w) (base:=base) (cR d29 X G fun _ _ _ _ _ _=>rK fun _ _=>rfl) B D_law_short
 have D_law_sets:=tR (P:=l.prog) (w:=w) (base:=base) (cR d30 X G fun _ _ _ _ _ _=>iV fun _=>rfl) B
 have D_law_is_part:=oa (P:=l.prog) (w:=w) (base:=base) (cR d31 X G fun _ _ _ _ _ _=>rK fun _ _=>rfl) B
 exact Dx F0 B D_law_at D_law_nails D_law_cord D_law_short D_holding_sets D_law_holds D_law_sets D_law_is_part D_falling_sets D_meeting_sets
theorem FY{l:OpenLaw}{q:Program}{loose:List Str}{XP:(Str→Option Value)→Heap→Prop}{YP:World→Heap→Prop}{d:DefRec}{K:Params→Frag}(hn:l.most=some 63)(hdf:d.params.defaults=[])
  (hY:∀(w:World) (h:Heap),YP w h→(K w.params).In h∧vM (K w.params) h)
  (F:∀(w:World) (mg:Str→Option Value) (fa:Addr) (h:Heap),(K w.params).In h→h.Ns mainGlobals mg→mg d.name=some (.ref fa)→
   ∃fd:FuncData,(∀(s:Shared) (u:Value),BindsTo s fd ⟨[u],[]⟩ [("_law_script",u)])∧∀base:Heap,(K w.params).In base→base.Ns mainGlobals mg→FnOk l.prog w (K w.params) mg base wA 7 fa fd ["_law_script"] (du (K w.params) kh)):
  PySem.W.WalkO q loose XP YP l.row.toRowW d [] (fun f vs=>PySem.call f vs):=
 L2.yK (n:=63) (k:=7) (x:="_law_script") (CX:=fun _=>wA) (sp:=fun w=>du (K w.params) kh) hn (by decide) hdf ⟨rfl,by decide,by decide⟩ hY F (fun _ _ a ns hl hS=>C4 (DL ns hl) hS) fun _ _ _ _ _ z=>z
end Nhk36
open PySem PySem.W PyProof.Rows
namespace PySem.W.Fast
def tw13090426445885528096:=0
def tw9057684643344319552:=0
def tw5404277580738482368:=0
def tw17955553356981828000:=0
def tw15670878832850166240:=0
def tw6389330256741085664:=0
def tw5216667247287840224:=0
def tw624675044373402240:=0
def tw14505282372797919040:=0
def tw16297666910958465185:=0
def tw13522413025767738657:=0
def tw4659811112311913953:=0
def tw11819454099842380866:=0
def tw6481046611691336770:=0
def tw10995817054958422178:=0
def tw6024668830259368258:=0
def tw11245297834372619938:=0
def tw18228448457794584226:=0
def tw5187111506707536578:=0
def tw11885282152486996355:=0
def tw1491474231942222499:=0
def tw881387988784657315:=0
def tw15445690079705456579:=0
def tw4429078956895787971:=0
def tw8595313116137855971:=0
def tw13323501017534347460:=0
def tw13656857422820046148:=0
def tw14670253748627106148:=0
def tw5922071353973842372:=0
def tw11080016273098428900:=0
def tw17360848829360553540:=0
def tw2943073444681635684:=0
def tw484050984643376004:=0
def tw1271121233360433157:=0
def tw10723724755234727941:=0
def tw5236904213345951941:=0
def tw13593852242884600069:=0
def tw8896297467478522181:=0
def tw7334240867998243141:=0
def tw4173724064301861285:=0
def tw17711407404681247269:=0
def tw1218438039380945445:=0
def tw10565874637782201925:=0
def tw14250498025913419365:=0
def tw4801103807227596485:=0
def tw10093464966386503750:=0
def tw11382849259209606022:=0
def tw7958914675843497894:=0
def tw495758085695130598:=0
def tw8620475708717737095:=0
def tw14145364492408338023:=0
def tw16425903209978892935:=0
def tw14580898033311911591:=0
def tw17207682884545987303:=0
def tw7461369561148158791:=0
def tw5862901411402161991:=0
def tw12763318210568536935:=0
def tw4554090477142157448:=0
def tw4768880589992621288:=0
def tw9999139931315954088:=0
def tw12060756223587761960:=0
def tw13992127020400293768:=0
def tw13202097782024504489:=0
def tw14663301989092244041:=0
def tw2408740957711633257:=0
def tw15856622042122659753:=0
def tw10061021022495338409:=0
def tw812318777774850058:=0
def tw11376654085137985610:=0
def tw11049040658894802026:=0
def tw12425325835935995242:=0
def tw3817369042133790090:=0
def tw8842903103043206570:=0
def tw9567452535532122858:=0
def tw17365594362805789482:=0
def tw13528849169669673930:=0
def tw7382928375995006091:=0
def tw363323474540111051:=0
def tw17546030337727085067:=0
def tw14722344761350379275:=0
def tw6911410666131387275:=0
def tw4120130151155418124:=0
def tw12653558521785043020:=0
def tw12400322133622643948:=0
def tw16605822644160745868:=0
def tw12486539657484252652:=0
def tw13309229495651931724:=0
def tw5785572599627007628:=0
def tw16703610592710735532:=0
def tw3068339419979842348:=0
def tw2619135215356023628:=0
def tw12335013725477989517:=0
def tw6944988543236988045:=0
def tw13226815321407387885:=0
def tw4879423676931354893:=0
def tw15689190775088758317:=0
def tw4573311808342146733:=0
def tw5821821753811577645:=0
def tw17896777224120228813:=0
def tw4048289705879738317:=0
def tw11520040768495662158:=0
def tw5376065955394586830:=0
def tw11667950325332727022:=0
def tw6507648617823265102:=0
def tw12702935218944884142:=0
def tw6346398508134420078:=0
def tw1097774797787389582:=0
def tw16814576410774066862:=0
def tw16371635959396862670:=0
def tw11266324001009369806:=0
def tw11929787993862111982:=0
def tw8800241675482456846:=0
def tw8953665607101325134:=0
def tw3629475581284242447:=0
def tw7302418678832597551:=0
def tw17020014559050024495:=0
def tw10388488181033068111:=0
def tw7015630914871516111:=0
def tw7655260419821611088:=0
def tw10912886145535855792:=0
def tw16207346424652091664:=0
def tw15373686825464442256:=0
def tw4186513477948306864:=0
def tw1907562566486712976:=0
def tw13629247619542058768:=0
def tw3788642156891223856:=0
def tw9713407112834584593:=0
def tw12330883301805870673:=0
def tw4684809390157452241:=0
def tw270650859652515954:=0
def tw10214516812365887666:=0
def tw11859270365708799282:=0
def tw16416153127761450514:=0
def tw7615270754413660786:=0
def tw12751038993089687154:=0
def tw15824930057959118642:=0
def tw14082442411245431666:=0
def tw4662790415143385107:=0
def tw14454526507576968243:=0
def tw14264028971303795859:=0
def tw10592315243802252627:=0
def tw1966361954197744019:=0
def tw5080915025963417011:=0
def tw11346324152859258387:=0
def tw11823237476240392787:=0
def tw3957024448306202291:=0
def tw8093512871206571923:=0
def tw7059816791541738451:=0
def tw16237939397883264148:=0
def tw9928789432652726452:=0
def tw9990610706033521204:=0
def tw16744410254950308500:=0
def tw6215360533405101972:=0
def tw11291315010680614101:=0
def tw5528876296169865461:=0
def tw10549404491487110389:=0
def tw8738741856803123765:=0
def tw9072484406965678901:=0
def tw14745692968668407637:=0
def tw5849917004287384630:=0
def tw6874170855028028662:=0
def tw8193880750319248630:=0
def tw14505327480084909334:=0
def tw1920018435139587574:=0
def tw14903022535734007350:=0
def tw7462016815973017270:=0
def tw554775488010668758:=0
def tw11649560910023813239:=0
def tw7967231451186749655:=0
def tw10277945463375562071:=0
def tw60642056306780535:=0
def tw11869573242370940631:=0
def tw13696362102246996727:=0
def tw2450454858964877336:=0
def tw2363323878005877848:=0
def tw7737510895039712344:=0
def tw5499969533042147576:=0
def tw8145134203386710392:=0
def tw15981797615767145944:=0
def tw5326304310845897304:=0
def tw9398882889904497817:=0
def tw16503882267187807417:=0
def tw13718007730537894073:=0
def tw3651192010666033369:=0
def tw18138499961062483513:=0
def tw4604517567059155577:=0
def tw2298479877060223641:=0
def tw10318723325355902681:=0
def tw17754945014366202809:=0
def tw1648259389032270809:=0
def tw18301219442262196217:=0
def tw18113406676723415033:=0
def tw8600171204625372282:=0
def tw17112159704841763098:=0
def tw923213354746582618:=0
def tw11988643105898778362:=0
def tw10299005414445416282:=0
def tw9840652468378886010:=0
def tw15475708492420310299:=0
def tw5403065977531658619:=0
def tw1491689290189726075:=0
def tw3084983387612627707:=0
def tw1359813935942894459:=0
def tw10008664341553287067:=0
def tw7097085348943237340:=0
def tw3188010151172731228:=0
def tw10977336276537886204:=0
def tw6810468251504165500:=0
def tw10061662998975389308:=0
def tw11464378666695431868:=0
def tw10583052101149503196:=0
def tw18242534710605122364:=0
def tw15136069153820453949:=0
def tw7314602172091417789:=0
def tw144568523941170781:=0
def tw6795431104530035453:=0
def tw14946010152120450845:=0
def tw10144517441285759773:=0
def tw15764341913491488733:=0
def tw440075370835967965:=0
def tw4397417149292253214:=0
def tw17099015725102163230:=0
def tw17512195201701441118:=0
def tw5388656299312531390:=0
def tw10565574519765825631:=0
def tw12410171759157474655:=0
def tw12600191945323663743:=0
def tw10449010273736181343:=0
def tw10200437370287572895:=0
def tw2667997950388200383:=0
def tw10028611136227308479:=0
def tw13190798973004605163:=0
end PySem.W.Fast
set_option maxRecDepth 100000 in
set_option maxHeartbeats 0 in
theorem PySem.Challenge.cw_nailhang_k36_holding_sets_holds : PySem.Challenge.rw_nailhang_k36_holding_sets.Holds := by
 w_on;o_law;k_head;(case hw=>w_witness2)
 k_fill
 refine Nhk36.FY (l:=PySem.Challenge.rw_nailhang_k36_holding_sets) rfl rfl (fun w h Y=>⟨PySem.W.km_in_of Y,by
  refine' PL.yY (PySem.W.km_in_of Y) ?y1 ?y2 ?y3 ?y4 ?y5 ?y6 ?y7 (PySem.W.km_tabs_of Y _ ?y8)
  (case y1=>k_is)
  (case y2=>k_is)
  (case y3=>exact rfl)
  (case y4=>k_is)
  (case y5=>exact rfl)
  (case y6=>kernel_rfl)
  (case y7=>kernel_rfl)
  (case y8=>k_mem)⟩) ?F
 case F=>
  intro w mg fa h KX G hmg
  refine' Nhk36.DM KX G hmg (PL.EH KX G ?_ ?_ ?_ ?_ ?_ ?_ ?_ ?_ ?_ ?_ ?_ ?_ ?_ ?_ ?_ ?_ ?_ ?_ ?_ ?_) ?_ ?_ ?_ ?_ ?_ ?_ ?_ ?_ ?_ ?_ ?_ ?_ ?_ ?_ ?_ ?_ ?_ ?_ ?_ ?_ ?_ ?_ ?_ ?_ ?_ ?_ ?_ ?_ ?_ ?_ ?_ ?_ ?_ ?_ ?_ ?_ ?_ ?_ ?_ ?_
  all_goals first |(refine' Nhk36.Fa ?_ ?_ ?_ ?_ <;> first |k_is |skip) |k_is |exact rfl |kernel_rfl |skip
