import PyProof.Rows.All
import KE.KLam
import KE.KNestM
import PyProof.OldK
import Wide.All
import OpenK.AllK
import Wide.FinOn
import Lean
import PyProof.EqAt
import PyProof.EqKinds
import PyProof.TupleCall
import KE.KRevIter
import PyProof.Rows.SeqMore
import PyProof.Rows.ListMulArg
import PyProof.ZipIter
import PyProof.Rows.ZipGen
import PyProof.EnumMake
import PyProof.StrWalks
import PyProof.SliceStr2
import PyProof.StrBlockH
import PyProof.FString5
import PyProof.Rows.StrJoin2
import PyProof.Rows.Range3
import KE.KDictLaws
import PyProof.ConsumeWalk
import PyProof.SumWalkG
import PyProof.Rows.SeqCalls
import PyProof.Rows.SeqGen
import PyProof.Rows.MinMaxN
import PyProof.Rows.CallKwBuiltin
import PyProof.Rows.SortStr
import PyProof.StrOps2
import PyProof.Rows.StrMul
import PyProof.IsRules
import PyProof.Rows.SetFrom
import PyProof.CollectStr
import KE.KTryMore
import PyProof.SetRoads
import KE.KSortTup
import PyProof.StrOps
import PyProof.Rows.SortRuns
import PyProof.Rows.SortKey
import PyProof.StrCalls
import PyProof.RulesTry
import PyProof.StrLawsIn
import PyProof.StrLawsNeg
import KE.RegKIsAll
import KE.RegKTryMore
import PySem.Challenge.RW_nailhang_k54_rules_of_cords
set_option Elab.async false
set_option linter.all false
set_option maxRecDepth 100000
set_option maxHeartbeats 4000000
local macro_rules | `(tactic|omega) => `(tactic|lia)
noncomputable section
theorem Z0{α β:Type}(a:α)(f:α→Option β):(some a).bind f=f a:=rfl
theorem Z1{α β:Type}{x:α}{f:α→β}:(some x).map f=some (f x):=rfl
theorem Z2{α:Type}{a:α}{l:List α}:(a::l)[0]? =some a:=rfl
theorem Z3{α:Type}{a:α}{l:List α}{i}:(a::l)[i+1]? =l[i]? :=rfl
theorem Z4{α:Type}{a:α}{l:List α}:(a::l).length=l.length+1:=rfl
theorem Z5{α:Type}:([]:List α).length=0:=rfl
theorem Z6{α:Type}{a b:α}{l:List α}:(a::l).set 0 b=b::l:=rfl
theorem Z7{α:Type}{a b:α}{l:List α}{n}:(a::l).set (n+1) b=a::l.set n b:=rfl
theorem Z8{α:Type}{l:List α}:[]++l=l:=rfl
theorem Z9{α:Type}{a:α}{l m:List α}:a::l++m=a::(l++m):=rfl
def gv:=@And.intro _ _ @Bool.false_and <|And.intro @Bool.false_eq_true <|And.intro @if_true.{1} <|And.intro @if_false.{1} <|And.intro @Nat.zero_add <|And.intro @Bool.not_false <|And.intro @Bool.and_true <|And.intro @decide_true <|And.intro @decide_false <|And.intro @Bool.true_or <|And.intro @Bool.true_and @Bool.not_true
def Za:=@Option.bind_eq_some_iff
def c_:=@List.length_map
def gN:=@List.mem_cons_of_mem
def iB:=@PySem.Heap.get?_push_of_some
def Zad:=@Option.map_eq_some_iff
def g_:=@List.mem_cons_self
def Zaf:=@List.mem_singleton
def eR:=@List.map_cons
def iK:=@List.length_append
def Zai:=@List.mem_append
def iC:=@PySem.Heap.lt_size
def nY:=@PySem.Heap.get?_push_size
def gR:=@Nat.le_refl
def nZ:=@Nat.lt_of_lt_of_le
def n4:=@List.size_toArray
def n8:=@List.append_assoc
def Zap:=@List.mem_cons
def jE:=@Nat.ne_of_lt
def jS:=@Nat.le_trans
def Zas:=@List.mem_filter
def oS:=@List.append_nil
def yN:=@List.getElem?_eq_getElem
def wk:=@List.mem_append_right
def tv:=@Nat.le_add_right
def mY:=@Nat.le_of_lt
def Zay:=@List.mem_map
def uL:=@Bool.false_ne_true
def Zb:=@Array.length_toList
def tw:=@List.map_append
def yO:=@Array.toList_append
def Dq:=@Nat.add_sub_cancel_left
def yP:=@Nat.lt_succ_of_lt
def yX:=@Nat.lt_of_le_of_lt
def wm:=@List.filter_cons
def FZ:=@List.getElem?_append_right
def pT:=@Nat.zero_le
def Zbi:=@List.getElem?_eq_some_iff
def yQ:=@Bool.and_eq_true
def BM:=@List.mergeSort_perm
def BN:=@List.length_reverse
def Av:=@List.reverse_cons
def BO:=@Bool.not_eq_true'
open PySem.W (instObj tabObj methodObj hideAll_get Frag nsIn lookIn findIn mroIn kitOne kia_one kitx_list kitx_dict keepIn callWith_K cellsFrom_some fnOf codeIn mg_of mg_none_of OpenLaw excIn exmOne codeHdIn)
local macro_rules | `(tactic|and_intros)=>`(tactic|exact⟨rfl,rfl,rfl,by decide+kernel,rfl,by decide+kernel,by decide+kernel⟩)
variable {α β:Type} {a C I:PySem.Addr} {us its:List PySem.Value} {P q:PySem.Program} {h h':PySem.Heap} {t' j k ep:Nat} {x qual z p0 p1:PySem.Str} {Q:PySem.Value→PySem.Shared→Prop} {e iter:PySem.Expr} {pins:List (PySem.Addr×PySem.Obj)} {y:Int} {es:Array (Int×PySem.Value)} {pos' p p2:PySem.Pos} {fp:List PySem.Addr} {body:List PySem.Stmt} {fd:PySem.FuncData} {ps loose ks:List PySem.Str} {scope:PySem.Scope} {params:PySem.Arguments} {doc pm cdv oc:PySem.Value} {an:Option PySem.Addr} {osl:Array (Option PySem.Value)} {XP:(PySem.Str→Option PySem.Value)→PySem.Heap→Prop} {YP:PySem.World→PySem.Heap→Prop} {d:PySem.PyData} {st:PySem.Stmt} {js:List (Option Nat)} {ds:List PySem.PyData} {m1 m2 m m3:Bool} {op':PySem.PyData→PySem.PyData→Option PySem.PyData} {tk:PySem.Tok} {U T:List Nat} {L:List (List Nat)}
def zz0:=@PySem.wpAny_bind
def zz1:=@PySem.wpAny_pure
def zz2:=@PySem.wpAny_mono
def zz3:=@decide_eq_false
def zz4:=@decide_eq_true
def zz5:=@of_decide_eq_true
def zz6:=@PySem.wpAny_Call_Name_kw
def zz7:=@PySem.wpAny_holding
def zz8:=@Nat.add_lt_add_left
def zz9:=@Nat.lt_of_le_of_ne
def zzA:=@Nat.lt_succ_self
def zzB:=@PySem.Heap.size_push
def zzC:=@Nat.add_le_add_left
def zzD:=@Nat.add_sub_of_le
namespace L2
open PySem PySem.Spec PyProof.Rows
abbrev lh:=Sum Int Str
def HQ:lh→Value→Bool
 |.inl k,v=>Value.isInt k v
 |.inr x,v=>Value.isStrOf x v
def L7(w:World):lh→Int
 |.inl k=>hashInt k
 |.inr x=>hashStr w x
theorem dq:∀{k:lh} {v:Value},HQ k v=true→(∃i t,k=Sum.inl i∧v=Value.int i t)∨(∃x t,k=Sum.inr x∧v=Value.str x t)
 |.inl i,v,h=>by
  obtain⟨t,e⟩:=Value.isInt_shape (k:=i) (v:=v) h
  exact .inl ⟨i,t,rfl,e⟩
 |.inr x,v,h=>by
  obtain⟨t,e⟩:=Value.isStrOf_shape (x:=x) (v:=v) h
  exact .inr ⟨x,t,rfl,e⟩
theorem Iq(a b:Int):decide ((Sum.inl a:lh)=Sum.inl b)=(a == b):=by
 by_cases e:a=b
 ·subst e;simp
 ·have h:¬(Sum.inl a:lh)=Sum.inl b:=fun q=>e (Sum.inl.inj q)
  rw[zz3 h]
  exact(beq_eq_false_iff_ne.mpr e).symm
theorem Ir(a b:Str):decide ((Sum.inr a:lh)=Sum.inr b)=decide (a=b):=by
 by_cases e:a=b
 ·subst e;simp
 ·have h:¬(Sum.inr a:lh)=Sum.inr b:=fun q=>e (Sum.inr.inj q)
  rw[zz3 h,zz3 e]
theorem Is(a:Int)(b:Str):decide ((Sum.inl a:lh)=Sum.inr b)=false:=zz3 (fun q=>nomatch q)
theorem Iu(a:Str)(b:Int):decide ((Sum.inr a:lh)=Sum.inl b)=false:=zz3 (fun q=>nomatch q)
def qN(prog:Program)(w:World):PySem.KeyKind prog w lh where
 is:=HQ
 hash:=L7 w
 inj:=fun v a b ha hb=>by
  rcases dq ha with⟨i,t,rfl,rfl⟩ |⟨x,t,rfl,rfl⟩
  ·rcases dq hb with⟨j,u,rfl,e⟩ |⟨y,u,rfl,e⟩
   ·injection e with e1 _;rw[e1]
   ·exact nomatch e
  ·rcases dq hb with⟨j,u,rfl,e⟩ |⟨y,u,rfl,e⟩
   ·exact nomatch e
   ·injection e with e1 _;rw[e1]
 byValue:=fun k v h=>by
  rcases dq h with⟨i,t,rfl,rfl⟩ |⟨x,t,rfl,rfl⟩ <;> rfl
 pyHash:=fun hv h=>by
  rcases dq hv with⟨i,t,rfl,rfl⟩ |⟨x,t,rfl,rfl⟩
  ·exact wpAny_pyHash_int h
  ·exact wpAny_pyHash_str h
 eqBool:=fun hu hv h=>by
  rcases dq hu with⟨i,t,rfl,rfl⟩ |⟨x,t,rfl,rfl⟩
  ·rcases dq hv with⟨j,u,rfl,rfl⟩ |⟨y,u,rfl,rfl⟩
   ·rw[Iq]at h;exact wpAny_eqBool_int h
   ·rw[Is]at h;exact SeqAt.EqAt.int_str i t y u _ _ _ _ h
  ·rcases dq hv with⟨j,u,rfl,rfl⟩ |⟨y,u,rfl,rfl⟩
   ·rw[Iu]at h;exact SeqAt.EqAt.str_int x t j u _ _ _ _ h
   ·rw[Ir]at h;exact wpAny_eqBool_str h
 «strs»:=fun k x t v h=>by
  rcases dq h with⟨i,u,rfl,e⟩ |⟨y,u,rfl,e⟩
  ·exact nomatch e
  ·injection e with e1 _
   subst e1
   cases v <;> rfl
end L2
namespace L2
open PySem PySem.Spec PyProof.Rows
inductive V where
 |non |bl (b:Bool) |int (i:Int) |str (x:Str) |byt (b:Array UInt8) |flt (b:UInt64) |ref (a:Addr) |ty (n:String)
 deriving DecidableEq
def RelV:V→Value→Prop
 |.non,u=>u=Value.none
 |.bl b,u=>u=Value.bool b
 |.int i,u=>∃t,u=Value.int i t
 |.str x,u=>∃t,u=Value.str x t
 |.byt b,u=>∃t,u=Value.bytes b t
 |.flt b,u=>∃t,u=Value.float b t
 |.ref a,u=>u=Value.ref a
 |.ty n,u=>u=Value.type n
abbrev Vals:List V→List Value→Prop:=Paired RelV
theorem Vals.length{xs:List V}(r:Vals xs us):xs.length=us.length:=Paired.length r
theorem Vals.get:∀{xs:List V} {us:List Value} {i:Nat} {x:V},Vals xs us→xs[i]? =some x→∃u,us[i]? =some u∧RelV x u
 |_,_,_,_,.nil,e=>by simp at e
 |_,_,0,_,.cons r _,e=>by simp at e;subst e;exact⟨_,rfl,r⟩
 |_,_,i+1,x,.cons _ t,e=>by
  obtain⟨u,h1,h2⟩:=Vals.get (i:=i) (x:=x) t (by simpa using e)
  exact⟨u,by simpa using h1,h2⟩
theorem Vals.append:∀{xs ys:List V} {us ws:List Value},Vals xs us→Vals ys ws→Vals (xs++ys) (us++ws)
 |_,_,_,_,.nil,s=>s
 |_,_,_,_,.cons r t,s=>.cons r (Vals.append t s)
theorem Vals.take:∀{xs:List V} {us:List Value} (n:Nat),Vals xs us→Vals (xs.take n) (us.take n)
 |_,_,0,_=>.nil
 |_,_,_+1,.nil=>.nil
 |_,_,n+1,.cons r t=>.cons r (Vals.take n t)
theorem Vals.drop:∀{xs:List V} {us:List Value} (n:Nat),Vals xs us→Vals (xs.drop n) (us.drop n)
 |_,_,0,r=>r
 |_,_,_+1,.nil=>.nil
 |_,_,n+1,.cons _ t=>Vals.drop n t
def Iv:Option V→Option Value→Prop
 |some v,some u=>RelV v u
 |none,none=>True
 |_,_=>False
def KV{κ:Type}:List (κ×V)→List (κ×Value)→Prop:=Paired fun(p:κ×V) (q:κ×Value)=>p.1=q.1∧RelV p.2 q.2
def kV:lh→V
 |.inl i=>.int i
 |.inr x=>.str x
inductive HO where
 /-- a list -/
 |lst (xs:List V)
 /-- a tuple (never changes) -/
 |tup (xs:List V)
 /-- a dict whose keys are ints and Aw;one whose keys are tuples of ints and Aw (the empty one is both) -/
 |dK (kvs:List (lh×V)) |dT (kvs:List (List lh×V))
 /-- a set of ints:its members,its size -/
 |set (S:Int→Bool) (n:Nat)
 /-- an instance of the class at C,its dict at dx,its attributes -/
 |ins (C dx:Addr) (fs:List (Str×V))
 /-- the dict of the instance at x -/
 |own (x:Addr)
 /-- the dict of an exception -/
 |xd (fs:List (Str×V))
 /-- a bound method,f of x -/
 |met (f x:Addr)
 /-- a range object lo,lo+1,.. below hi -/
 |rng (lo hi:Int)
 /-- a thing that is known to the object (the script;a dict while a loop walks it):read,never written while it is so -/
 |frz (o:Obj) (u:HO)
 /-- a code object's table -/
 |tbl (q:Str)
 /-- any other thing,by what is true of its one object (a def of one's own:SetO a S n:=HO.ext fun h=> ..) -/
 |ext (φ:Heap→Prop)
abbrev Hp:=Addr→Option HO
def fg(H:Hp)(a:Addr)(o:HO):Hp:=fun b=>if b=a then some o else H b
theorem ce{H:Hp}{o:HO}:fg H a o a=some o:=by unfold fg;rw[if_pos rfl]
theorem aM{H:Hp}{b:Addr}{o:HO}(h:b≠a):fg H a o b=H b:=by unfold fg;rw[if_neg h]
theorem bN{H:Hp}{b:Addr}{o:HO}(h:H a=some o)(h':H b=none):a≠b:=by
 intro e;subst e;rw[h]at h';cases h'
section
variable (P:Program) (w:World)
def ObjOk(H:Hp)(h:Heap)(a:Addr):HO→Prop
 |.lst xs=>xs.length≤sizeLine∧∃(its:List Value) (n:Nat),Vals xs its∧h.get? a=some {cls:=.type "list",data:=.seq its.toArray n}
 |.tup xs=>xs.length≤sizeLine∧∃its:List Value,Vals xs its∧IsTup h a its.toArray
 |.dK kvs=>kvs.length≤sizeLine∧(a == sysModules)=false∧∃vs,KV kvs vs∧h.DictOf (qN P w) a vs
 |.dT kvs=>kvs.length≤sizeLine∧(a == sysModules)=false∧∃xs:List (List lh×Addr×Value),
   Paired (fun(p:List lh×V) (q:List lh×Addr×Value)=>p.1=q.1∧H q.2.1=some (.tup (p.1.map kV))∧RelV p.2 q.2.2) kvs xs∧
   ∃o es ep,h.get? a=some o∧o.ExactDict∧o.data=.dict es ep∧es.toList=xs.map (entryOfKey (tupleKind (qN P w)))∧(xs.map (·.1)).Nodup
 |.set S n=>h.SetOf (intKind P w) a S n
 |.ins C dx fs=>H dx=some (.own a)∧fs.length≤1000∧dx≠a∧h.get? a=some (instObj C dx)∧
   ∃mA,h.Ns1 dx mA∧(∀f,Iv (fs.lookup f) (mA f))∧PySem.Within mA (fs.map (·.1))
 |.own _=>∃o,h.get? a=some o
 |.xd fs=>∃mA,h.Ns1 a mA∧∀f,Iv (fs.lookup f) (mA f)
 |.rng lo hi=>∃t u v,h.get? a=some {cls:=.type "range",data:=.fields #[.int lo t,.int hi u,.int 1 v]}
 |.frz o u=>h.get? a=some o∧ObjOk H h a u
 |.tbl q=>∃ps:Array Value,h.get? a=some (tabObj ps)∧TriplesOk ps.toList∧∀pos cv,codeAmong pos ps.toList=some cv→∃c,cv=Value.ref c∧H c=some (.own a)∧h.CodeRec cv q
 |.met f x=>h.get? a=some (methodObj (.ref f) (.ref x))
 |.ext φ=>φ h∧(∃o,h.get? a=some o)∧∀h1 h2:Heap,φ h1→(∀o,h1.get? a=some o→h2.get? a=some o)→φ h2
def HOk(H:Hp)(h:Heap):Prop:=∀a o,H a=some o→ObjOk P w H h a o
end
section
variable {P:Program} {w:World} {H H':Hp} {h h':Heap} {a:Addr} {o:HO}
theorem ObjOk.lt(x:ObjOk P w H h a o):a < h.objs.size:=by
 cases o with
 |lst xs=>obtain⟨_,_,_,_,e⟩:=x;exact iC e
 |tup xs=>obtain⟨_,_,_,p⟩:=x;exact p.lt
 |dK kvs=>obtain⟨_,_,_,_,o,_,_,e,_⟩:=x;exact iC e
 |dT kvs=>obtain⟨_,_,_,_,o,_,_,e,_⟩:=x;exact iC e
 |set S n=>obtain⟨o,_,_,_,e,_⟩:=x;exact iC e
 |ins C dx fs=>obtain⟨_,_,_,e,_⟩:=x;exact iC e
 |own y=>obtain⟨_,e⟩:=x;exact iC e
 |xd fs=>obtain⟨_,⟨_,_,_,e,_⟩,_⟩:=x;exact iC e
 |rng lo hi=>obtain⟨_,_,_,e⟩:=x;exact iC e
 |frz ob u=>obtain⟨e,_⟩:=x;exact iC e
 |tbl q=>obtain⟨_,e,_⟩:=x;exact iC e
 |met f y=>exact iC (show h.get? a=some _ from x)
 |ext φ=>obtain⟨_,⟨_,e⟩,_⟩:=x;exact iC e
theorem Paired.mapP{F G:α→β→Prop}{l₁:List α}{l₂:List β}(h:Paired F l₁ l₂)(f:∀a b,F a b→G a b):Paired G l₁ l₂:=by
 induction h with
 |nil=>exact .nil
 |cons r _ t=>exact .cons (f _ _ r) t
theorem ObjOk.stay(x:ObjOk P w H h a o)(k:∀b u,(b=a∨H b=some (.own a))→h.get? b=some u→h'.get? b=some u)
  (ho:∀b,H b=some (.own a)→H' b=some (.own a)) (ht:∀b xs,H b=some (.tup xs)→H' b=some (.tup xs)):ObjOk P w H' h' a o:=by
 induction o with
 |lst xs=>obtain⟨z,its,n,r,e⟩:=x;exact⟨z,its,n,r,k _ _ (.inl rfl) e⟩
 |tup xs=>obtain⟨z,its,r,ob,e,c⟩:=x;exact⟨z,its,r,ob,k _ _ (.inl rfl) e,c⟩
 |dK kvs=>obtain⟨z,y,vs,r,ob,es,ep,e,c⟩:=x;exact⟨z,y,vs,r,ob,es,ep,k _ _ (.inl rfl) e,c⟩
 |dT kvs=>
  obtain⟨z,y,xs,r,ob,es,ep,e,c⟩:=x
  exact⟨z,y,xs,Paired.mapP r fun p q z=>⟨z.1,ht _ _ z.2.1,z.2.2⟩,ob,es,ep,k _ _ (.inl rfl) e,c⟩
 |set S n=>obtain⟨ob,es,ep,t,e,c⟩:=x;exact⟨ob,es,ep,t,k _ _ (.inl rfl) e,c⟩
 |ins C dx fs=>
  obtain⟨d,z,ne,e,mA,⟨od,es,ep,e2,c⟩,r⟩:=x
  exact⟨ho _ d,z,ne,k _ _ (.inl rfl) e,mA,⟨od,es,ep,k _ _ (.inr d) e2,c⟩,r⟩
 |own y=>obtain⟨ob,e⟩:=x;exact⟨ob,k _ _ (.inl rfl) e⟩
 |xd fs=>obtain⟨mA,⟨od,es,ep,e,c⟩,r⟩:=x;exact⟨mA,⟨od,es,ep,k _ _ (.inl rfl) e,c⟩,r⟩
 |rng lo hi=>obtain⟨t,u,v,e⟩:=x;exact⟨t,u,v,k _ _ (.inl rfl) e⟩
 |frz ob u ih=>obtain⟨e,q⟩:=x;exact⟨k _ _ (.inl rfl) e,ih q⟩
 |tbl q=>
  obtain⟨ps,e,t,r⟩:=x
  refine⟨ps,k _ _ (.inl rfl) e,t,fun pos cv z=>?_⟩
  obtain⟨c,ec,ho',c2,oc,vs,tq,hc,hoc,hd⟩:=r pos cv z
  subst ec
  cases hc
  exact⟨c,rfl,ho _ ho',c,oc,vs,tq,rfl,k _ _ (.inr ho') hoc,hd⟩
 |met f y=>
  have e:h.get? a=some (methodObj (.ref f) (.ref y)):=x
  show h'.get? a=some (methodObj (.ref f) (.ref y))
  exact k a _ (.inl rfl) e
 |ext φ=>obtain⟨p,⟨o,e⟩,st⟩:=x;exact⟨st _ _ p fun o q=>k _ _ (.inl rfl) q,⟨o,k _ _ (.inl rfl) e⟩,st⟩
theorem HOk.lt(x:HOk P w H h)(e:H a=some o):a < h.objs.size:=(x a o e).lt
theorem HOk.fresh(x:HOk P w H h)(e:h.objs.size≤a):H a=none:=by
 cases q:H a with
 |none=>rfl
 |some u=>exact absurd (nZ (x.lt q) e) (Nat.lt_irrefl _)
theorem HOk.kept(x:HOk P w H h)(k:∀b u,h.get? b=some u→h'.get? b=some u):HOk P w H h':=fun a o e=>
 (x a o e).stay (fun b u _ q=>k b u q) (fun _ q=>q) fun _ _ q=>q
theorem HOk.laid(x:HOk P w H h)(k:∀b u,h.get? b=some u→h'.get? b=some u)(hp:h.objs.size≤a)(new:ObjOk P w (fg H a o) h' a o):HOk P w (fg H a o) h':=fun b u e=>by
 have hn:=x.fresh hp
 by_cases hb:b=a
 ·subst hb;rw[ce]at e;cases e;exact new
 ·rw[aM hb]at e
  exact(x b u e).stay (fun c v _ q=>k c v q) (fun c q=>by rw[aM (bN q hn)];exact q) fun c xs q=>by rw[aM (bN q hn)];exact q
end
def Rd(H:Hp)(a:Addr)(u:HO):Prop:=H a=some u∨∃o,H a=some (.frz o u)
theorem Rd.ok{w:World}{H:Hp}{u:HO}(r:Rd H a u)(x:HOk P w H h):ObjOk P w H h a u:=by
 rcases r with r |⟨o,r⟩
 ·exact x a u r
 ·obtain⟨_,q⟩:=x a _ r
  exact q
def LU:Option HO→Prop
 |some (.lst _)=>True
 |some (.dK _)=>True
 |some (.dT _)=>True
 |some (.set _ _)=>True
 |some (.ins _ _ _)=>True
 |some (.ext _)=>True
 |_=>False
section
variable {P:Program} {w:World} {H:Hp} {h h':Heap} {x e:Addr} {o':HO}
theorem HOk.write(ok:HOk P w H h)(mu:LU (H x))(he:e=x∨H e=some (.own x))(k:∀b u,b≠e→h.get? b=some u→h'.get? b=some u)(heo:∃u,h'.get? e=some u)
  (new:ObjOk P w (fg H x o') h' x o'):HOk P w (fg H x o') h':=fun b u q=>by
 have nown:∀c y,H c=some (.own y)→c≠x:=fun c y r z=>by subst z;rw[r]at mu;exact mu
 have ntup:∀c xs,H c=some (.tup xs)→c≠x:=fun c xs r z=>by subst z;rw[r]at mu;exact mu
 by_cases hb:b=x
 ·subst hb;rw[ce]at q;cases q;exact new
 ·rw[aM hb]at q
  by_cases hbe:b=e
  ·have q':H b=some (.own x):=by
    rcases he with z |z
    ·exact absurd (hbe.trans z) hb
    ·rw[hbe];exact z
   rw[q]at q';cases q'
   obtain⟨v,hv⟩:=heo
   exact⟨v,by rw[hbe];exact hv⟩
  ·refine(ok b u q).stay (fun c v hc r=>k c v ?_ r) (fun c r=>by rw[aM (nown c b r)];exact r) fun c xs r=>by rw[aM (ntup c xs r)];exact r
   rcases hc with rfl |hc
   ·exact hbe
   ·rintro rfl
    rcases he with z |z
    ·exact nown c b hc z
    ·rw[hc]at z;cases z;exact hb rfl
end
structure Un (fs ex:List Addr) (H H':Hp) (h h':Heap):Prop where
 keep:∀b o,h.get? b=some o→H b=none→b∉fs→b∉ex→h'.get? b=some o
 slot:∀b o,h.get? b=some o→H b=none→b∈fs→b∉ex→∃sl,h'.get? b=some {o with slots:=sl}
 free:∀b o,h.get? b=some o→H b=none→b∉ex→H' b=none
 there:∀b o,h.get? b=some o→b∉ex→∃o',h'.get? b=some o'
 tups:∀b xs,H b=some (.tup xs)→H' b=some (.tup xs)
 frzs:∀b o u,H b=some (.frz o u)→H' b=some (.frz o u)
 tbls:∀b ps,H b=some (.tbl ps)→H' b=some (.tbl ps)
section
variable {fs fs' ex ex':List Addr} {H H1 H2:Hp} {h h1 h2 h':Heap} {a x e:Addr} {o:HO}
theorem Un.any(u:Un fs ex H H1 h h1){b:Addr}{ob:Obj}(q:h.get? b=some ob)(n:H b=none)(hx:b∉ex):∃sl,h1.get? b=some {ob with slots:=sl}:=by
 by_cases hb:b∈fs
 ·exact u.slot b ob q n hb hx
 ·exact⟨ob.slots,u.keep b ob q n hb hx⟩
theorem Un.kept(k:∀b u,h.get? b=some u→h'.get? b=some u):Un fs ex H H h h':=
 ⟨fun b ob q _ _ _=>k b ob q,fun b ob q _ _ _=>⟨ob.slots,k b ob q⟩,fun _ _ _ n _=>n,fun b ob q _=>⟨ob,k b ob q⟩,fun _ _ q=>q,fun _ _ _ q=>q,fun _ _ q=>q⟩
theorem Un.refl:Un fs ex H H h h:=Un.kept fun _ _ q=>q
theorem Un.laid(k:∀b u,h.get? b=some u→h'.get? b=some u)(hp:h.objs.size≤a)(hn:H a=none):Un fs ex H (fg H a o) h h' where
 keep:=fun b u q _ _ _=>k b u q
 slot:=fun b u q _ _ _=>⟨u.slots,k b u q⟩
 free:=fun b u q n _=>by rw[aM (jE (nZ (iC q) hp))];exact n
 there:=fun b u q _=>⟨u,k b u q⟩
 tups:=fun b xs q=>by rw[aM (bN q hn)];exact q
 frzs:=fun b u xs q=>by rw[aM (bN q hn)];exact q
 tbls:=fun b ps q=>by rw[aM (bN q hn)];exact q
theorem Un.write(mu:LU (H x))(he:e=x∨H e=some (.own x))(k:∀b u,b≠e→h.get? b=some u→h'.get? b=some u)(heo:∃u,h'.get? e=some u):Un fs ex H (fg H x o) h h':=by
 have hx:∀b,H b=none→b≠x:=fun b n z=>by subst z;rw[n]at mu;exact mu
 have hb:∀b,H b=none→b≠e:=fun b n z=>by
  subst z
  rcases he with r |r
  ·exact hx b n r
  ·rw[n]at r;cases r
 have hm:∀b u,H b=some u→¬LU (some u)→b≠x:=fun b u q nm z=>by subst z;rw[q]at mu;exact nm mu
 refine⟨fun b u q n _ _=>k b u (hb b n) q,fun b u q n _ _=>⟨u.slots,k b u (hb b n) q⟩,fun b u q n _=>by rw[aM (hx b n)];exact n,fun b u q _=>?_,
  fun b xs q=>by rw[aM (hm b _ q fun z=>z)];exact q,fun b u xs q=>by rw[aM (hm b _ q fun z=>z)];exact q,fun b ps q=>by rw[aM (hm b _ q fun z=>z)];exact q⟩
 by_cases hbe:b=e
 ·subst hbe;exact heo
 ·exact⟨u,k b u hbe q⟩
end
def LV(h:Heap)(H:Hp):List Addr:=(List.range h.objs.size).filter fun a=>(H a).isSome
def wn(h:Heap)(H:Hp):Heap:=PySem.W.hideAll h (LV h H)
theorem BP(h:Heap)(H:Hp):(wn h H).objs.size=h.objs.size:=PySem.W.hideAll_size _ _
theorem q9{H:Hp}{b:Addr}{o:Obj}(e:h.get? b=some o)(n:H b=none):(wn h H).get? b=some o:=
 hideAll_get _ e fun hm=>by
  have q:(H b).isSome=true:=(Zas.mp hm).2
  rw[n]at q;simp at q
theorem F_{H:Hp}{b:Addr}{o:Obj}(e:(wn h H).get? b=some o):h.get? b=some o∧H b=none:=by
 have e':h.get? b=some o:=PySem.W.of_hideAll (LV h H) e
 refine⟨e',?_⟩
 cases q:H b with
 |none=>rfl
 |some x=>
  have hm:b∈LV h H:=Zas.mpr ⟨List.mem_range.mpr (iC e'),by simp[q]⟩
  have z:(wn h H).get? b=none:=PySem.W.hideAll_none (LV h H) hm
  rw[z]at e;cases e
def Ga(g h:Heap)(L:Addr):List (Addr×Obj):=(List.range h.objs.size).filterMap fun a=>if a=L∨(g.get? a).isSome=true then none else (h.get? a).map fun o=>(a,o)
def dv(g h:Heap)(L d:Addr):List (Addr×Obj):=(Ga g h L).filter fun p=>decide (p.1≠d)
end L2
variable {xs:List L2.V} {o:L2.HO} {H' F B':L2.Hp} {v1 v2:L2.V} {so:Option L2.HO}
namespace L2
open PySem PySem.Spec PyProof.Rows
def Dt(K:Frag):Option Addr:=match nsIn K mainGlobals "in_told_order" with
 |some (some (.ref f))=>match K.lookup f with
  |some ⟨_,_,.func fd,_⟩=>match fd.code with
   |.ref c=>match K.lookup c with
    |some ⟨_,_,.fields vs,_⟩=>match (vs[11]? :Option Value)with
     |some (.ref P)=>some P
     |_=>none
    |_=>none
   |_=>none
  |_=>none
 |_=>none
def qx(K:Frag)(b:Addr):Option Str:=if Dt K=some b then some (Str.ofString "in_told_order.<locals>.<lambda>")else none
structure Mod (K:Frag) (mg:Str→Option Value) (base:Heap):Prop where
 kin:K.In base
 glob:base.Ns mainGlobals mg
 blt:∃mb,base.Ns builtinsNs mb∧∀x:Str,x≠"__name__"→mb x=bootBuiltins x
 nolimit:base.NoLimit
 bmain:∃bm ob,mg "__builtins__"=some (.ref bm)∧bm≠builtinsNs∧base.get? bm=some ob∧ob.cls=.type "module"∧ob.dict=some builtinsNs∧ob.data=.plain
structure Cx where
 prog:Program
 w:World
 K:Frag
 mg:Str→Option Value
 base:Heap
 A:Around
 N:List Str
 s₀:Shared
 H₀:Hp
 env:Env
 outer:List Env
 stack:List Env
 ex:List Addr
 fn:Str→Bool
 calm:Bool
 pn:List (Addr×Obj)
 xe:Value→Shared→Prop
def qy(l:List Env):List Addr:=l.filterMap (·.frame)
abbrev Cx.fs(X:Cx):List Addr:=qy X.outer
def HR(sc:Scope)(x:Str):Prop:=sc.names.lookup x=some .local∨sc.names.lookup x=some .cell∨sc.names.lookup x=some .free
def Iw(sc:Scope)(x:Str):Prop:=sc.names.lookup x=some .local∨sc.names.lookup x=some .cell
def L8(env:Env)(h:Heap)(m:Str→Option Value)(x:Str)(u:Value):Prop:=
 (env.kindOf x=some .local∧m x=some u)∨((env.kindOf x=some .cell∨env.kindOf x=some .free)∧∃c,env.cells.lookup x=some c∧h.IsCell c (some u))
structure Cx.Ok (X:Cx):Prop where
 mod:Mod X.K X.mg X.base
 kind:X.env.scope.kind=.function
 glob:X.env.globals=mainGlobals
 blt:X.env.builtins=builtinsNs
 above:X.s₀.heap.objs.size≤X.env.locals
 inj:∀x y c,X.env.cells.lookup x=some c→X.env.cells.lookup y=some c→x=y
 has:∀x,(X.env.kindOf x=some .cell∨X.env.kindOf x=some .free)→∃c,X.env.cells.lookup x=some c
 cab:∀x c,X.fn x=true→X.env.cells.lookup x=some c→X.s₀.heap.objs.size≤c
 hd:X.calm=true→X.A.handled=none
 frames:X.A.frames=some X.stack
 stk:X.stack=X.outer∨(X.stack=X.env::X.outer∧X.env.frame=some X.env.locals)
 exf:∀b∈X.ex,b≠X.env.locals∧∀x c,X.env.cells.lookup x=some c→c≠b
 bs:∀b o,X.base.get? b=some o→X.s₀.heap.get? b=some o∧X.H₀ b=none
 bsz:X.base.objs.size≤X.s₀.heap.objs.size
 noex:∀b o,X.base.get? b=some o→b∉X.ex
 exfs:∀b∈X.ex,b∉X.fs
 funs:X.s₀.heap.FunFrames X.base X.outer
 frf:∀b∈X.fs,X.H₀ b=none
 tab:∀b q,qx X.K b=some q→X.H₀ b=some (.tbl q)
structure Inv (X:Cx) (pins:List (Addr×Obj)) (σ:List (Option V)) (H:Hp) (s:Shared):Prop where
 ok:X.Ok
 os:s.os=X.s₀.os
 bare:AllBare s.gens
 base:Un X.fs X.ex X.H₀ H X.s₀.heap s.heap
 loc:∃m,s.heap.Ns X.env.locals m∧∀(i:Nat) (x:Str) (v:V),X.N[i]? =some x→σ[i]? =some (some v)→HR X.env.scope x→∃u,RelV v u∧L8 X.env s.heap m x u
 cell:∀x c,X.env.cells.lookup x=some c→∃v,s.heap.IsCell c v
 free:H X.env.locals=none
 freeC:∀x c,X.env.cells.lookup x=some c→H c=none
 pin:∀p∈X.pn++pins,s.heap.get? p.1=some p.2∧H p.1=none∧p.1≠X.env.locals∧p.1∉X.fs∧∀v,p.2.data≠ .cell v
 hok:HOk X.prog X.w H s.heap
 len:σ.length=X.N.length
section
variable {X:Cx} {pins:List (Addr×Obj)} {σ:List (Option V)} {H H':Hp} {s:Shared} {h':Heap}
theorem Cx.Ok.nofr(ok:X.Ok){b:Addr}{o:Obj}(e:X.base.get? b=some o):b∉X.fs:=fun hb=>by
 have:=(ok.funs.mem hb).1
 rw[e]at this;cases this
theorem Inv.bs(I:Inv X pins σ H s):∀b o,X.base.get? b=some o→s.heap.get? b=some o∧H b=none:=fun b o e=>
 ⟨I.base.keep b o (I.ok.bs b o e).1 (I.ok.bs b o e).2 (I.ok.nofr e) (I.ok.noex b o e),I.base.free b o (I.ok.bs b o e).1 (I.ok.bs b o e).2 (I.ok.noex b o e)⟩
theorem Inv.bk(I:Inv X pins σ H s):∀b o,X.base.get? b=some o→s.heap.get? b=some o:=fun b o e=>(I.bs b o e).1
theorem Inv.mod(I:Inv X pins σ H s):Mod X.K X.mg X.base:=I.ok.mod
theorem Inv.tab(I:Inv X pins σ H s):∀b q,qx X.K b=some q→H b=some (.tbl q):=fun b q e=>I.base.tbls b q (I.ok.tab b q e)
theorem Inv.kIn(I:Inv X pins σ H s):X.K.In s.heap:=I.ok.mod.kin.keeps I.bk
theorem Inv.nolimit(I:Inv X pins σ H s):s.heap.NoLimit:=I.ok.mod.nolimit.keeps I.bk
theorem Inv.lt(I:Inv X pins σ H s):X.env.locals < s.heap.objs.size:=let ⟨_,hn,_⟩:=I.loc;hn.lt
theorem Inv.sz(I:Inv X pins σ H s):X.s₀.heap.objs.size≤s.heap.objs.size:=jS I.ok.above (mY I.lt)
theorem Inv.nofs(I:Inv X pins σ H s)(h:s.heap.objs.size≤a):a∉X.fs:=fun hb=>by
 obtain⟨_,o,ho,_⟩:=I.ok.funs.mem hb
 exact absurd (nZ (iC ho) (jS I.sz h)) (Nat.lt_irrefl _)
theorem Inv.cne(I:Inv X pins σ H s):∀x c,X.env.cells.lookup x=some c→c≠X.env.locals:=fun x c e z=>by
 obtain⟨v,o,ho,hd⟩:=I.cell x c e
 obtain⟨m,⟨o',es,ep,ho',hd',_⟩,_⟩:=I.loc
 rw[z,ho']at ho;cases ho;rw[hd']at hd;cases hd
theorem Inv.funs(I:Inv X pins σ H s):s.heap.FunFrames X.base X.outer:=by
 have all:∀(l:List Env),(∀b∈qy l,b∈X.fs)→X.s₀.heap.FunFrames X.base l→s.heap.FunFrames X.base l:=by
  intro l
  induction l with
  |nil=>intro _ _;trivial
  |cons env r ih=>
   intro hs hl
   obtain⟨hk,⟨L,o,hf,hn,ho,hd⟩,hr⟩:=hl
   have hL:L∈X.fs:=hs L (by unfold qy;rw[List.filterMap_cons,hf];exact g_)
   obtain⟨sl,e⟩:=I.base.slot L o ho (I.ok.frf L hL) hL fun z=>I.ok.exfs L z hL
   exact⟨hk,⟨L,_,hf,hn,e,hd⟩,ih (fun b hb=>hs b (by unfold qy;rw[List.filterMap_cons,hf];exact gN _ hb)) hr⟩
 exact all X.outer (fun _ hb=>hb) I.ok.funs
theorem Inv.stack(I:Inv X pins σ H s):s.heap.FunFrames X.base X.stack:=by
 rcases I.ok.stk with e |⟨e,hf⟩
 ·rw[e];exact I.funs
 ·rw[e]
  obtain⟨m,hn,_⟩:=I.loc
  refine .cons (by rw[I.ok.kind];decide) hf hn ?_ I.funs
  exact Heap.get?_none_of_le (jS I.ok.bsz I.ok.above)
theorem Inv.stkSub(I:Inv X pins σ H s):∀b∈qy X.stack,b∈X.env.locals::X.fs:=fun b hb=>by
 rcases I.ok.stk with e |⟨e,hf⟩
 ·rw[e]at hb;exact gN _ hb
 ·rw[e]at hb
  unfold qy at hb
  rw[List.filterMap_cons,hf]at hb
  exact hb
theorem Inv.stkFree(I:Inv X pins σ H s):∀b∈qy X.stack,H b=none:=fun b hb=>by
 rcases Zap.mp (I.stkSub b hb)with e |hb
 ·rw[e];exact I.free
 ·obtain⟨_,o,ho,_⟩:=I.ok.funs.mem hb
  exact I.base.free b o ho (I.ok.frf b hb) fun z=>I.ok.exfs b z hb
theorem Inv.step{g':Array GenState}{d':Drawn}{ch:List Addr}(I:Inv X pins σ H s)
  (hch:∀b∈ch,(b∈X.ex∨X.s₀.heap.objs.size≤b)∧b≠X.env.locals∧(∀x c,X.env.cells.lookup x=some c→c≠b)∧∀p∈X.pn++pins,p.1≠b)
  (keep:∀b o,b≠X.env.locals→b∉X.fs→b∉ch→s.heap.get? b=some o→H b=none→h'.get? b=some o)
  (slot:∀b o,b≠X.env.locals→b∈X.fs→b∉ch→s.heap.get? b=some o→H b=none→∃sl,h'.get? b=some {o with slots:=sl}) (free:∀b o,b∉ch→s.heap.get? b=some o→H b=none→H' b=none)
  (there:∀b o,b∉ch→s.heap.get? b=some o→∃o',h'.get? b=some o')
  (tups:∀b xs,H b=some (.tup xs)→H' b=some (.tup xs)) (frzs:∀b o u,H b=some (.frz o u)→H' b=some (.frz o u)) (tbls:∀b ps,H b=some (.tbl ps)→H' b=some (.tbl ps))
  (ns:∀m,s.heap.Ns X.env.locals m→h'.Ns X.env.locals m) (hok:HOk X.prog X.w H' h') (hg:AllBare g'):
  Inv X pins σ H' {s with heap:=h',gens:=g',drawn:=d',toks:=t'}:=by
 have neL:∀b o,X.s₀.heap.get? b=some o→b≠X.env.locals:=fun b o e=>jE (nZ (iC e) I.ok.above)
 have neC:∀b o,X.s₀.heap.get? b=some o→b∉X.ex→b∉ch:=fun b o e hx hb=>by
  rcases(hch b hb).1 with z |z
  ·exact hx z
  ·exact absurd (nZ (iC e) z) (Nat.lt_irrefl _)
 have cellK:∀x c,X.env.cells.lookup x=some c→∀v,s.heap.IsCell c v→h'.IsCell c v:=fun x c e v ⟨o,ho,hd⟩=>by
  have nch:c∉ch:=fun z=>(hch c z).2.2.1 x c e rfl
  by_cases hc:c∈X.fs
  ·obtain⟨sl,q⟩:=slot c o (I.cne x c e) hc nch ho (I.freeC x c e)
   exact⟨_,q,hd⟩
  ·exact⟨o,keep c o (I.cne x c e) hc nch ho (I.freeC x c e),hd⟩
 refine⟨I.ok,I.os,hg,⟨fun b o e n hb hx=>?_,fun b o e n hb hx=>?_,fun b o e n hx=>?_,fun b o e hx=>?_,fun b xs e=>tups b xs (I.base.tups b xs e),fun b o xs e=>frzs b o xs (I.base.frzs b o xs e),fun b ps e=>?_⟩,?_,fun x c e=>?_,?_,fun x c e=>?_,fun p hp=>?_,hok,I.len⟩
 ·exact keep b o (neL b o e) hb (neC b o e hx) (I.base.keep b o e n hb hx) (I.base.free b o e n hx)
 ·obtain⟨sl,e1⟩:=I.base.slot b o e n hb hx
  obtain⟨sl',e2⟩:=slot b _ (neL b o e) hb (neC b o e hx) e1 (I.base.free b o e n hx)
  exact⟨sl',e2⟩
 ·obtain⟨o',e1⟩:=I.base.there b o e hx
  exact free b o' (neC b o e hx) e1 (I.base.free b o e n hx)
 ·obtain⟨o',e1⟩:=I.base.there b o e hx
  exact there b o' (neC b o e hx) e1
 ·exact tbls b _ (I.base.tbls b ps e)
 ·obtain⟨m,hn,hl⟩:=I.loc
  refine⟨m,ns m hn,fun i x v e1 e2 e3=>?_⟩
  obtain⟨u,r,l⟩:=hl i x v e1 e2 e3
  refine⟨u,r,?_⟩
  rcases l with l |⟨k,c,e,z⟩
  ·exact .inl l
  ·exact .inr ⟨k,c,e,cellK x c e _ z⟩
 ·obtain⟨v,z⟩:=I.cell x c e
  exact⟨v,cellK x c e v z⟩
 ·obtain⟨m,⟨o,_,_,ho,_⟩,_⟩:=I.loc
  exact free _ o (fun z=>(hch _ z).2.1 rfl) ho I.free
 ·obtain⟨v,o,ho,hd⟩:=I.cell x c e
  exact free c o (fun z=>(hch c z).2.2.1 x c e rfl) ho (I.freeC x c e)
 ·obtain⟨e,n,ne,nf,d⟩:=I.pin p hp
  have nch:p.1∉ch:=fun z=>(hch p.1 z).2.2.2 p hp rfl
  exact⟨keep p.1 p.2 ne nf nch e n,free p.1 p.2 nch e n,ne,nf,d⟩
theorem Inv.un(I:Inv X pins σ H s)(u:Un X.fs [] H H' s.heap h')(hok:HOk X.prog X.w H' h'):Inv X pins σ H' {s with heap:=h',toks:=t'}:=by
 obtain⟨m,⟨o,es,ep,ho,r⟩,_⟩:=id I.loc
 obtain⟨sl,hL⟩:=u.any ho I.free (by simp)
 exact I.step (g':=s.gens) (d':=s.drawn) (ch:=[]) (fun _ z=>nomatch z) (fun b o _ hb _ e n=>u.keep b o e n hb (by simp)) (fun b o _ hb _ e n=>u.slot b o e n hb (by simp)) (fun b o _ e n=>u.free b o e n (by simp)) (fun b o _ e=>u.there b o e (by simp)) u.tups u.frzs u.tbls (fun m' hm=>by
  obtain⟨o',es',ep',ho',r'⟩:=hm
  rw[ho]at ho';cases ho'
  exact⟨_,es',ep',hL,r'⟩) hok I.bare
theorem Inv.call{g':Array GenState}{d':Drawn}{ch:List Addr}(I:Inv X pins σ H s)(u:Un (qy X.stack) ch H H' s.heap h')(hok:HOk X.prog X.w H' h')(hg:AllBare g')
  (hch:∀b∈ch,(b∈X.ex∨X.s₀.heap.objs.size≤b)∧b≠X.env.locals∧(∀x c,X.env.cells.lookup x=some c→c≠b)∧∀p∈X.pn++pins,p.1≠b):
  Inv X pins σ H' {s with heap:=h',gens:=g',drawn:=d',toks:=t'}:=by
 obtain⟨m,⟨o,es,ep,ho,r⟩,_⟩:=id I.loc
 obtain⟨sl,hL⟩:=u.any ho I.free fun z=>(hch _ z).2.1 rfl
 exact I.step (ch:=ch) hch (fun b o hL hb hc e n=>u.keep b o e n (fun z=>(Zap.mp (I.stkSub b z)).elim hL hb) hc) (fun b o _ _ hc e n=>u.any e n hc) (fun b o hc e n=>u.free b o e n hc) (fun b o hc e=>u.there b o e hc) u.tups u.frzs u.tbls (fun m' hm=>by
  obtain⟨o',es',ep',ho',r'⟩:=hm
  rw[ho]at ho';cases ho'
  exact⟨_,es',ep',hL,r'⟩) hok hg
theorem Inv.turned{it:Addr}(I:Inv X pins σ H s)(k:∀b o,b≠it→s.heap.get? b=some o→h'.get? b=some o)(hn:H it=none)(hL:it≠X.env.locals)
  (h1:it∈X.ex∨X.s₀.heap.objs.size≤it) (h2:∀x c,X.env.cells.lookup x=some c→c≠it) (h3:∀p∈X.pn++pins,p.1≠it):Inv X pins σ H {s with heap:=h',toks:=t'}:=by
 have nit:∀b u,H b=some u→b≠it:=fun b u e z=>by rw[z,hn]at e;cases e
 refine I.step (g':=s.gens) (d':=s.drawn) (ch:=[it]) (fun b hb=>?_) (fun b o _ _ hc e _=>k b o (fun z=>hc (by simp[z])) e) (fun b o _ _ hc e _=>⟨o.slots,k b o (fun z=>hc (by simp[z])) e⟩) (fun _ _ _ _ n=>n)
  (fun b o hc e=>⟨o,k b o (fun z=>hc (by simp[z])) e⟩) (fun _ _ e=>e) (fun _ _ _ e=>e) (fun _ _ e=>e) (fun m hm=>?_) (fun b u e=>?_) I.bare
 ·have e:b=it:=by simpa using hb
  subst e
  exact⟨h1,hL,h2,h3⟩
 ·obtain⟨o,es,ep,ho,r⟩:=hm
  exact⟨o,es,ep,k _ o (Ne.symm hL) ho,r⟩
 ·refine(I.hok b u e).stay (fun c v hc q=>k c v ?_ q) (fun _ q=>q) fun _ _ q=>q
  rcases hc with z |z
  ·rw[z];exact nit b u e
  ·exact nit c _ z
theorem Inv.tok(I:Inv X pins σ H s)(t:Nat):Inv X pins σ H {s with toks:=t}:=I.un (h':=s.heap) (t':=t) Un.refl I.hok
theorem Inv.kept(I:Inv X pins σ H s)(k:∀b u,s.heap.get? b=some u→h'.get? b=some u):Inv X pins σ H {s with heap:=h',toks:=t'}:=I.un (Un.kept k) (I.hok.kept k)
theorem Inv.laid(I:Inv X pins σ H s)(k:∀b u,s.heap.get? b=some u→h'.get? b=some u)(hp:s.heap.objs.size≤a)(new:ObjOk X.prog X.w (fg H a o) h' a o):
  Inv X pins σ (fg H a o) {s with heap:=h',toks:=t'}:=I.un (Un.laid k hp (I.hok.fresh hp)) (I.hok.laid k hp new)
theorem Inv.write{x e:Addr}(I:Inv X pins σ H s)(mu:LU (H x))(he:e=x∨H e=some (.own x))(k:∀b u,b≠e→s.heap.get? b=some u→h'.get? b=some u)(heo:∃u,h'.get? e=some u)
  (new:ObjOk X.prog X.w (fg H x o) h' x o):Inv X pins σ (fg H x o) {s with heap:=h',toks:=t'}:=I.un (Un.write mu he k heo) (I.hok.write mu he k heo new)
theorem Inv.pins_of{pins':List (Addr×Obj)}(I:Inv X pins σ H s)(h:∀p∈pins',s.heap.get? p.1=some p.2∧H p.1=none∧p.1≠X.env.locals∧p.1∉X.fs∧∀v,p.2.data≠ .cell v):Inv X pins' σ H s:=
 ⟨I.ok,I.os,I.bare,I.base,I.loc,I.cell,I.free,I.freeC,fun p hp=>(Zai.mp hp).elim (fun z=>I.pin p (List.mem_append_left _ z)) (h p),I.hok,I.len⟩
theorem q_{N:List Str}(hN:N.Nodup){i:Nat}(a:N[i]? =some x)(b:N[j]? =some x):i=j:=by
 obtain⟨h1,e1⟩:=Zbi.mp a
 obtain⟨h2,e2⟩:=Zbi.mp b
 exact(List.getElem_inj hN).mp (e1.trans e2.symm)
theorem BQ{M:Model}{A:Around}{E:Value→Shared→Prop}{i:Nat}{v:V}{u:Value}{Q:Unit→Shared→Prop}(I:Inv X pins σ H s)(hN:X.N.Nodup)(hi:X.N[i]? =some x)(hx:Iw X.env.scope x)(r:RelV v u)
  (h:∀s',Inv X pins (σ.set i (some v)) H s'→(∃a,Heap.SameBut a s.heap s'.heap∧(a=X.env.locals∨X.env.cells.lookup x=some a))→Q () s') (hf:X.fn x=true∨X.env.scope.names.lookup x=some .local:=by first |exact .inl rfl |exact .inr rfl |assumption):wpAny M A (storeName X.env x u) Q E s:=by
 obtain⟨m,hn,hl⟩:=id I.loc
 have hcls:(X.env.scope.kind ==.class||(X.env.scope.kind ==.module&&X.env.locals != X.env.globals))=false:=by rw[I.ok.kind];rfl
 have hiσ:i < σ.length:=by rw[I.len];exact(Zbi.mp hi).1
 have cne:=I.cne
 have tracked:∀{a:Addr} {h':Heap},(∃o,s.heap.get? a=some o∧H a=none)→Heap.SameBut a s.heap h'→HOk X.prog X.w H h':=fun {a h'} ha hs b ob e=>by
  obtain⟨_,_,hfree⟩:=ha
  refine(I.hok b ob e).stay (fun c w' hc q=>(hs.2 c ?_).trans q) (fun _ q=>q) fun _ _ q=>q
  rintro rfl
  rcases hc with rfl |hc
  ·rw[hfree]at e;cases e
  ·rw[hfree]at hc;cases hc
 rcases hx with hk |hk
 ·refine wpAny_storeName_local hk hn (fun h' hn' hs=>?_) hcls
  obtain⟨oL,_,_,hoL,_⟩:=id hn
  refine h _ ⟨I.ok,I.os,I.bare,⟨fun b o e n hb hx=>?_,fun b o e n hb hx=>?_,I.base.free,fun b o e hx=>?_,I.base.tups,I.base.frzs,I.base.tbls⟩,⟨_,hn',fun j y v' e1 e2 e3=>?_⟩,fun y c e=>?_,I.free,I.freeC,fun p hp=>?_,tracked ⟨oL,hoL,I.free⟩ hs,by simpa using I.len⟩ ⟨_,hs,.inl rfl⟩
  ·exact(hs.2 b (jE (nZ (iC e) I.ok.above))).trans (I.base.keep b o e n hb hx)
  ·obtain⟨sl,e1⟩:=I.base.slot b o e n hb hx
   exact⟨sl,(hs.2 b (jE (nZ (iC e) I.ok.above))).trans e1⟩
  ·obtain⟨o',e1⟩:=I.base.there b o e hx
   exact⟨o',(hs.2 b (jE (nZ (iC e) I.ok.above))).trans e1⟩
  ·by_cases hj:j=i
   ·subst hj
    rw[hi]at e1;cases e1
    rw[List.getElem?_set_self hiσ]at e2
    cases e2
    exact⟨u,r,.inl ⟨hk,by simp⟩⟩
   ·rw[List.getElem?_set_ne (Ne.symm hj)]at e2
    obtain⟨u',r',q⟩:=hl j y v' e1 e2 e3
    refine⟨u',r',?_⟩
    rcases q with⟨k,e⟩ |⟨k,c,e,z⟩
    ·refine .inl ⟨k,?_⟩
     have:y≠x:=fun e=>hj (q_ hN e1 (e▸hi))
     simp[this,e]
    ·exact .inr ⟨k,c,e,z.sameBut hs (cne y c e)⟩
  ·obtain⟨w',z⟩:=I.cell y c e
   exact⟨w',z.sameBut hs (cne y c e)⟩
  ·obtain⟨e,n,ne,nf,d⟩:=I.pin p hp
   exact⟨(hs.2 p.1 ne).trans e,n,ne,nf,d⟩
 ·have hfn:X.fn x=true:=by
   rcases hf with z |z
   ·exact z
   ·rw[z]at hk;cases hk
  obtain⟨c,hc⟩:=I.ok.has x (.inl hk)
  obtain⟨w',z⟩:=I.cell x c hc
  refine wpAny_storeName_cell I.ok.kind hk hc z (fun h' hc' hs=>?_)
  obtain⟨oc,hoc,hocd⟩:=id z
  refine h {s with heap:=h'} ⟨I.ok,I.os,I.bare,⟨fun b o e n hb hx=>?_,fun b o e n hb hx=>?_,I.base.free,fun b o e hx=>?_,I.base.tups,I.base.frzs,I.base.tbls⟩,⟨m,hn.sameBut hs (Ne.symm (cne x c hc)),fun j y v' e1 e2 e3=>?_⟩,fun y c' e=>?_,I.free,I.freeC,fun p hp=>?_,tracked ⟨oc,hoc,I.freeC x c hc⟩ hs,by simpa using I.len⟩ ⟨c,hs,.inr hc⟩
  ·exact(hs.2 b (jE (nZ (iC e) (I.ok.cab x c hfn hc)))).trans (I.base.keep b o e n hb hx)
  ·obtain⟨sl,e1⟩:=I.base.slot b o e n hb hx
   exact⟨sl,(hs.2 b (jE (nZ (iC e) (I.ok.cab x c hfn hc)))).trans e1⟩
  ·obtain⟨o',e1⟩:=I.base.there b o e hx
   exact⟨o',(hs.2 b (jE (nZ (iC e) (I.ok.cab x c hfn hc)))).trans e1⟩
  ·by_cases hj:j=i
   ·subst hj
    rw[hi]at e1;cases e1
    rw[List.getElem?_set_self hiσ]at e2
    cases e2
    exact⟨u,r,.inr ⟨.inl hk,c,hc,hc'⟩⟩
   ·rw[List.getElem?_set_ne (Ne.symm hj)]at e2
    obtain⟨u',r',q⟩:=hl j y v' e1 e2 e3
    refine⟨u',r',?_⟩
    rcases q with q |⟨k,c',e,z'⟩
    ·exact .inl q
    ·refine .inr ⟨k,c',e,z'.sameBut hs ?_⟩
     rintro rfl
     exact hj (q_ hN e1 (I.ok.inj _ _ _ e hc▸hi))
  ·by_cases hcc:c'=c
   ·subst hcc;exact⟨_,hc'⟩
   ·obtain⟨w2,z2⟩:=I.cell y c' e
    exact⟨w2,z2.sameBut hs hcc⟩
  ·obtain⟨e,n,ne,nf,d⟩:=I.pin p hp
   refine⟨(hs.2 p.1 ?_).trans e,n,ne,nf,d⟩
   intro q
   rw[q,hoc]at e
   have q':oc=p.2:=Option.some.inj e
   exact d w' (by rw[←q'];exact hocd)
theorem re{M:Model}{A:Around}{E:Value→Shared→Prop}{i:Nat}{v:V}{u:Value}{Q:Unit→Shared→Prop}(I:Inv X pins σ H s)(hN:X.N.Nodup)(hi:X.N[i]? =some x)(hx:Iw X.env.scope x)(r:RelV v u)
  (h:∀s',Inv X pins (σ.set i (some v)) H s'→Q () s') (hf:X.fn x=true∨X.env.scope.names.lookup x=some .local:=by first |exact .inl rfl |exact .inr rfl |assumption):wpAny M A (storeName X.env x u) Q E s:=
 BQ I hN hi hx r (fun s' I' _=>h s' I') hf
theorem Inv.call'{s':Shared}{ch:List Addr}(I:Inv X pins σ H s)(ho:s'.os=s.os)(u:Un (qy X.stack) ch H H' s.heap s'.heap)(hok:HOk X.prog X.w H' s'.heap)(hg:AllBare s'.gens)
  (hch:∀b∈ch,(b∈X.ex∨X.s₀.heap.objs.size≤b)∧b≠X.env.locals∧(∀x c,X.env.cells.lookup x=some c→c≠b)∧∀p∈X.pn++pins,p.1≠b):Inv X pins σ H' s':=by
 obtain⟨h',g',d',t',o'⟩:=s'
 have e:o'=s.os:=ho
 subst e
 exact I.call (g':=g') (t':=t') (d':=d') u hok hg hch
end
abbrev XK:=Value→Option Addr→Hp→Prop
abbrev St:=List (Option V)
abbrev VK:=V→Hp→Prop
abbrev TE:=St→Hp→VK→Prop
abbrev TT:=St→Hp→(Bool→Hp→Prop)→Prop
abbrev TA:=St→Hp→(List V→Hp→Prop)→Prop
structure Ends where
 nx:St→Hp→Prop
 rt:VK
 bk:St→Hp→Prop:=fun _ _=>False
 ct:St→Hp→Prop:=fun _ _=>False
abbrev TS:=Ends→St→Hp→Prop
def EP(X:Cx)(pins:List (Addr×Obj))(σ:St)(Q:VK)(u:Value)(s':Shared):Prop:=∃v H',Inv X pins σ H' s'∧RelV v u∧Q v H'
def TP(X:Cx)(pins:List (Addr×Obj))(σ:St)(Q:Bool→Hp→Prop)(b:Bool)(s':Shared):Prop:=∃H',Inv X pins σ H' s'∧Q b H'
def AP(X:Cx)(pins:List (Addr×Obj))(σ:St)(Q:List V→Hp→Prop)(us:List Value)(s':Shared):Prop:=∃vs H',Inv X pins σ H' s'∧Vals vs us∧Q vs H'
def SP(X:Cx)(pins:List (Addr×Obj))(D:Ends)(f:Flow)(s':Shared):Prop:=
 match f with
 |.next=>∃σ' H',Inv X pins σ' H' s'∧D.nx σ' H'
 |.brk=>∃σ' H',Inv X pins σ' H' s'∧D.bk σ' H'
 |.cont=>∃σ' H',Inv X pins σ' H' s'∧D.ct σ' H'
 |.ret u=>∃v σ' H',Inv X pins σ' H' s'∧RelV v u∧D.rt v H'
def PE(X:Cx)(e:Expr)(t:TE):Prop:=
 ∀(pins:List (Addr×Obj)) (s:Shared) (σ:St) (H:Hp) (Q:VK),Inv X pins σ H s→t σ H Q→wpAny (model X.prog X.w) X.A (eval e X.env) (EP X pins σ Q) X.xe s
def PT(X:Cx)(e:Expr)(t:TT):Prop:=
 ∀(pins:List (Addr×Obj)) (s:Shared) (σ:St) (H:Hp) (Q:Bool→Hp→Prop),Inv X pins σ H s→t σ H Q→wpAny (model X.prog X.w) X.A (isTrue e X.env (eval e X.env)) (TP X pins σ Q) X.xe s
def PW(X:Cx)(e:Expr)(t:TT):Prop:=
 ∀(whole:Sem Value) (pins:List (Addr×Obj)) (s:Shared) (σ:St) (H:Hp) (Q:Bool→Hp→Prop),Inv X pins σ H s→t σ H Q→wpAny (model X.prog X.w) X.A (isTrue e X.env whole) (TP X pins σ Q) X.xe s
theorem PW.pt{X:Cx}{t:TT}(h:PW X e t):PT X e t:=h _
def PA(X:Cx)(es:List Expr)(t:TA):Prop:=
 ∀(pos:Pos) (pins:List (Addr×Obj)) (s:Shared) (σ:St) (H:Hp) (Q:List V→Hp→Prop),Inv X pins σ H s→t σ H Q→wpAny (model X.prog X.w) X.A (spliced (backTo pos (starEach es X.env))) (AP X pins σ Q) X.xe s
def PS(X:Cx)(st:Stmt)(t:TS):Prop:=
 ∀(pins:List (Addr×Obj)) (s:Shared) (σ:St) (H:Hp) (D:Ends),Inv X pins σ H s→t D σ H→wpAny (model X.prog X.w) X.A (exec st X.env) (SP X pins D) X.xe s
def PSs(X:Cx)(st:List Stmt)(t:TS):Prop:=
 ∀(pins:List (Addr×Obj)) (s:Shared) (σ:St) (H:Hp) (D:Ends),Inv X pins σ H s→t D σ H→wpAny (model X.prog X.w) X.A (execs st X.env) (SP X pins D) X.xe s
theorem fA{t:Sem α}{Q Q':α→Shared→Prop}{M:Model}{A:Around}{E:Value→Shared→Prop}{s:Shared}(h:wpAny M A t Q E s)(hQ:∀a s,Q a s→Q' a s):wpAny M A t Q' E s:=zz2 h hQ fun _ _ x=>x
end L2
variable {X:L2.Cx} {D:L2.Ends} {tt:L2.TT}
namespace L2
open PySem PySem.Spec PyProof.Rows
section
variable {X:Cx}
def L9(i:Nat):TE:=fun σ H Q=>∃v,σ[i]? =some (some v)∧Q v H
def tC(v:V):TE:=fun _ H Q=>Q v H
theorem oT{i:Nat}  {pos:Pos} (hN:X.N[i]? =some x) (hv:HR X.env.scope x) (hd:(x == ("__debug__":Str))=false:=by decide) (hcd:(x == ("__classdict__":Str))=false:=by decide):PE X (.Name x pos) (L9 i):=by
 intro pins s σ H Q I h
 obtain⟨v,e,h⟩:=h
 obtain⟨m,hn,hl⟩:=I.loc
 obtain⟨u,r,l⟩:=hl i x v hN e hv
 have fin:EP X pins σ Q u s:=⟨v,H,I,r,h⟩
 rcases l with⟨hk,hm⟩ |⟨hk,c,hc,hcell⟩
 ·exact wpAny_Name (wpAny_loadName_local I.ok.kind hk hn hm fin) hd
 ·rcases hk with hk |hk
  ·exact wpAny_Name (wpAny_loadName_cell I.ok.kind hk hc hcell fin) hd
  ·exact wpAny_Name (wpAny_loadName_free I.ok.kind hk hc hcell fin hcd) hd
theorem Ix{i j pos}:PE X (.Constant (.int i) j pos) (tC (.int i)):=fun _ _ _ H _ I h=>wpAny_Constant_int ⟨.int i,H,I.tok _,⟨_,rfl⟩,h⟩
theorem Du{b j pos}:PE X (.Constant (.bool b) j pos) (tC (.bl b)):=fun _ _ _ H _ I h=>Constant_bool ⟨.bl b,H,I,rfl,h⟩
theorem yY{x j pos}:PE X (.Constant (.str x) j pos) (tC (.str x)):=fun _ _ _ H _ I h=>Calls.Constant_str ⟨.str x,H,I.tok _,⟨_,rfl⟩,h⟩
def Gl(X:Cx)(x:Str):Prop:=X.env.kindOf x=some .globalImplicit
theorem lZ{E:Value→Shared→Prop}{s:Shared}{σ:St}{H:Hp}{u:Value}{pos:Pos}(I:Inv X pins σ H s)(hg:Gl X x)(hm:X.mg x=some u)(h:Q u s)
  (hd:(x == ("__debug__":Str))=false:=by decide):wpAny (model X.prog X.w) X.A (eval (.Name x pos) X.env) Q E s:=
 Calls.Name_function_global I.ok.kind hg (Calls.loadGlobal_global (by rw[I.ok.glob];exact I.mod.glob.keeps I.bk) hm h) hd
theorem mZ{E:Value→Shared→Prop}{s:Shared}{σ:St}{H:Hp}{u:Value}{pos:Pos}(I:Inv X pins σ H s)(hg:Gl X x)(hm:X.mg x=none)(hv:bootBuiltins x=some u)(h:Q u s)
  (hn:x≠"__name__":=by decide) (hd:(x == ("__debug__":Str))=false:=by decide):wpAny (model X.prog X.w) X.A (eval (.Name x pos) X.env) Q E s:=by
 obtain⟨mb,h1,h2⟩:=I.mod.blt
 exact Calls.Name_function_global I.ok.kind hg (Calls.loadGlobal_builtin (by rw[I.ok.glob];exact I.mod.glob.keeps I.bk) hm (by rw[I.ok.blt];exact h1.keeps I.bk) ((h2 x hn).trans hv) h) hd
theorem uM{v:V} {u:Value} {pos:Pos} (hg:Gl X x) (hm:X.mg x=some u) (r:RelV v u) (hd:(x == ("__debug__":Str))=false:=by decide):PE X (.Name x pos) (tC v):=
 fun _ _ _ H _ I h=>lZ I hg hm ⟨v,H,I,r,h⟩ hd
theorem Ax{v:V} {u:Value} {pos:Pos} (hg:Gl X x) (hm:X.mg x=none) (hv:bootBuiltins x=some u) (r:RelV v u) (hn:x≠"__name__":=by decide) (hd:(x == ("__debug__":Str))=false:=by decide):PE X (.Name x pos) (tC v):=
 fun _ _ _ H _ I h=>mZ I hg hm hv ⟨v,H,I,r,h⟩ hn hd
variable {a b:Expr} {ta tb:TE} {pos:Pos}
variable {tA tB':TT} {dv:List Expr}
def L_(t u:TT):TT:=fun σ H Q=>t σ H fun c H1=>if c=true then u σ H1 Q else Q false H1
def NA(t u:TT):TT:=fun σ H Q=>t σ H fun c H1=>if c=true then Q true H1 else u σ H1 Q
def Ma(t:TT):TT:=fun σ H Q=>t σ H fun c H1=>Q (!c) H1
theorem Gb(ha:PT X a tA):PW X (.BoolOp .And [a] pos) tA:=by
 intro wh pins s σ H Q I h
 refine isTrue_and (fA (ha pins s σ H Q I h) fun c s1 e=>?_)
 cases c with
 |true=>exact isTrue_and_nil e
 |false=>exact e
theorem Iy(ha:PT X a tA):PW X (.BoolOp .Or [a] pos) tA:=by
 intro wh pins s σ H Q I h
 refine isTrue_or (fA (ha pins s σ H Q I h) fun c s1 e=>?_)
 cases c with
 |false=>exact isTrue_or_nil e
 |true=>exact e
theorem Iz(ha:PT X a tA)(hb:PW X (.BoolOp .And (b::dv) pos) tB'):PW X (.BoolOp .And (a::b::dv) pos) (L_ tA tB'):=by
 intro wh pins s σ H Q I h
 refine isTrue_and (fA (ha pins s σ H _ I h) fun c s1 ⟨H1,I1,q1⟩=>?_)
 cases c with
 |true=>exact hb wh pins s1 σ H1 Q I1 q1
 |false=>exact⟨H1,I1,q1⟩
theorem Kp(ha:PT X a tA)(hb:PW X (.BoolOp .Or (b::dv) pos) tB'):PW X (.BoolOp .Or (a::b::dv) pos) (NA tA tB'):=by
 intro wh pins s σ H Q I h
 refine isTrue_or (fA (ha pins s σ H _ I h) fun c s1 ⟨H1,I1,q1⟩=>?_)
 cases c with
 |true=>exact⟨H1,I1,q1⟩
 |false=>exact hb wh pins s1 σ H1 Q I1 q1
theorem IB(ha:PT X a tA):PT X (.UnaryOp .Not a pos) (Ma tA):=by
 intro pins s σ H Q I h
 exact isTrue_not (ha pins s σ H (fun c H1=>Q (!c) H1) I h)
def Kq(ta tb:TE):TE:=fun σ H Q=>ta σ H fun x H1=>∃c,x=.bl c∧if c=true then tb σ H1 Q else Q (.bl false) H1
theorem IC{op}{t:TE}(h:PE X a t):PE X (.BoolOp op [a] pos) t:=fun pins s σ H Q I hw=>BoolOp_one (h pins s σ H Q I hw)
theorem ID(ha:PE X a ta)(hb:PE X (.BoolOp .And (b::dv) pos) tb):PE X (.BoolOp .And (a::b::dv) pos) (Kq ta tb):=by
 intro pins s σ H Q I h
 refine BoolOp_and (fA (ha pins s σ H _ I h) fun v s1 ⟨x,H1,I1,r1,q1⟩=>?_)
 obtain⟨c,rfl,q1⟩:=q1
 cases r1
 refine wpAny_truthy_bool ?_
 cases c with
 |true=>exact hb pins s1 σ H1 Q I1 q1
 |false=>exact⟨.bl false,H1,I1,rfl,q1⟩
end
end L2
namespace L2
open PySem PySem.Spec PyProof.Rows
def SqL(K:Frag)(H:Hp)(a:Addr)(xs:List V):Prop:=
 Rd H a (.lst xs)∨
  ∃(o:Obj) (its:Array Value) (n:Nat),K.lookup a=some o∧o.cls=.type "list"∧o.dict=none∧o.data=.seq its n∧its.size≤sizeLine∧Vals xs its.toList
def SqT(K:Frag)(H:Hp)(a:Addr)(xs:List V):Prop:=
 Rd H a (.tup xs)∨
  ∃(o:Obj) (its:Array Value) (n:Nat),K.lookup a=some o∧o.cls=.type "tuple"∧o.data=.seq its n∧its.size≤sizeLine∧Vals xs its.toList
def Mb:Value→Option V
 |.none=>some .non
 |.bool b=>some (.bl b)
 |.int i _=>some (.int i)
 |.str x _=>some (.str x)
 |.bytes b _=>some (.byt b)
 |.float b _=>some (.flt b)
 |.ref a=>some (.ref a)
 |.type n=>some (.ty n)
 |_=>none
theorem RelV.abs{x:V}{u:Value}(r:RelV x u):Mb u=some x:=by
 cases x with
 |non=>cases r;rfl
 |bl _=>cases r;rfl
 |int _=>obtain⟨t,rfl⟩:=r;rfl
 |str _=>obtain⟨t,rfl⟩:=r;rfl
 |byt _=>obtain⟨t,rfl⟩:=r;rfl
 |flt _=>obtain⟨t,rfl⟩:=r;rfl
 |ref _=>cases r;rfl
 |ty _=>cases r;rfl
theorem RelV.inj{x y:V}{u:Value}(r:RelV x u)(q:RelV y u):x=y:=Option.some.inj (r.abs.symm.trans q.abs)
theorem Vals.inj{ys:List V}(h:Vals xs us)(k:Vals ys us):xs=ys:=by
 induction h generalizing ys with
 |nil=>cases k;rfl
 |cons r _ ih=>cases k with |cons r' t'=>rw[r.inj r',ih t']
section
variable {X:Cx} {pins:List (Addr×Obj)} {σ:St} {H:Hp} {s:Shared} {a:Addr} {xs ys:List V}
theorem SqL.of{K:Frag}(h:H a=some (.lst xs)):SqL K H a xs:=.inl (.inl h)
theorem SqT.of{K:Frag}(h:H a=some (.tup xs)):SqT K H a xs:=.inl (.inl h)
theorem Inv.list(I:Inv X pins σ H s)(h:SqL X.K H a xs):∃its:List Value,Vals xs its∧PlainL s.heap a its.toArray∧xs.length≤sizeLine:=by
 rcases h with h |⟨o,its,n,hk,hc,hd,hs,hz,r⟩
 ·obtain⟨z,its,n,r,e⟩:=h.ok I.hok
  exact⟨its,r,⟨_,n,e,rfl,rfl,rfl⟩,z⟩
 ·refine⟨its.toList,r,⟨o,n,I.kIn a o hk,hc,hd,by simpa using hs⟩,?_⟩
  have e:=r.length
  simp only[Zb]at e
  omega
theorem Inv.tuple(I:Inv X pins σ H s)(h:SqT X.K H a xs):∃its:List Value,Vals xs its∧IsTup s.heap a its.toArray∧xs.length≤sizeLine:=by
 rcases h with h |⟨o,its,n,hk,hc,hs,hz,r⟩
 ·obtain⟨z,its,r,p⟩:=h.ok I.hok
  exact⟨its,r,p,z⟩
 ·refine⟨its.toList,r,⟨o,I.kIn a o hk,hc,n,by simpa using hs⟩,?_⟩
  have e:=r.length
  simp only[Zb]at e
  omega
theorem Inv.list_inj(I:Inv X pins σ H s)(h:SqL X.K H a xs)(h':SqL X.K H a ys):xs=ys:=by
 obtain⟨its,r,⟨o,n,e,_,_,d⟩,_⟩:=I.list h
 obtain⟨its',r',⟨o',n',e',_,_,d'⟩,_⟩:=I.list h'
 rw[e]at e';cases e'
 rw[d]at d'
 injection d' with d1 _
 have:its=its':=by simpa using congrArg Array.toList d1
 subst this
 exact r.inj r'
theorem Inv.tuple_inj(I:Inv X pins σ H s)(h:SqT X.K H a xs)(h':SqT X.K H a ys):xs=ys:=by
 obtain⟨its,r,⟨o,e,_,n,d⟩,_⟩:=I.tuple h
 obtain⟨its',r',⟨o',e',_,n',d'⟩,_⟩:=I.tuple h'
 rw[e]at e';cases e'
 rw[d]at d'
 injection d' with d1 _
 have:its=its':=by simpa using congrArg Array.toList d1
 subst this
 exact r.inj r'
end
abbrev Cx.wish(X:Cx)(E:Value→Shared→Prop):Cx:={X with xe:=E}
abbrev Cx.nox(X:Cx):Cx:=X.wish fun _ _=>False
theorem Cx.Ok.wish(ok:X.Ok)(E:Value→Shared→Prop):(X.wish E).Ok:=
 ⟨ok.mod,ok.kind,ok.glob,ok.blt,ok.above,ok.inj,ok.has,ok.cab,ok.hd,ok.frames,ok.stk,ok.exf,ok.bs,ok.bsz,ok.noex,ok.exfs,ok.funs,ok.frf,ok.tab⟩
theorem Cx.Ok.unwish{E:Value→Shared→Prop}(ok:(X.wish E).Ok):X.Ok:=
 ⟨ok.mod,ok.kind,ok.glob,ok.blt,ok.above,ok.inj,ok.has,ok.cab,ok.hd,ok.frames,ok.stk,ok.exf,ok.bs,ok.bsz,ok.noex,ok.exfs,ok.funs,ok.frf,ok.tab⟩
section
variable {X:Cx} {pins:List (Addr×Obj)} {σ:St} {H:Hp} {s:Shared} {E:Value→Shared→Prop}
theorem Inv.wish(I:Inv X pins σ H s)(E:Value→Shared→Prop):Inv (X.wish E) pins σ H s:=⟨I.ok.wish E,I.os,I.bare,I.base,I.loc,I.cell,I.free,I.freeC,I.pin,I.hok,I.len⟩
theorem Inv.unwish(I:Inv (X.wish E) pins σ H s):Inv X pins σ H s:=⟨I.ok.unwish,I.os,I.bare,I.base,I.loc,I.cell,I.free,I.freeC,I.pin,I.hok,I.len⟩
theorem SP.unwish{f:Flow}{s':Shared}(h:SP (X.wish E) pins D f s'):SP X pins D f s':=by
 cases f with
 |next=>obtain⟨σ',H',I,q⟩:=h;exact⟨σ',H',I.unwish,q⟩
 |brk=>obtain⟨σ',H',I,q⟩:=h;exact⟨σ',H',I.unwish,q⟩
 |cont=>obtain⟨σ',H',I,q⟩:=h;exact⟨σ',H',I.unwish,q⟩
 |ret u=>obtain⟨v,σ',H',I,r,q⟩:=h;exact⟨v,σ',H',I.unwish,r,q⟩
theorem PSs.nox{st:List Stmt}{t:TS}(h:PSs X.nox st t):PSs X st t:=fun pins s σ H D I hw=>
 zz2 (h pins s σ H D (I.wish _) hw) (fun _ _ q=>q.unwish) fun _ _ z=>False.elim z
end
section
variable {X:Cx} {st:Stmt} {dv:List Stmt} {t u:TS} {e:Expr} {te:TE} {pos:Pos}
def Kr:TS:=fun D σ H=>D.nx σ H
def Mc(t u:TS):TS:=fun D σ H=>t {D with nx:=u D} σ H
theorem Gc:PSs X [] Kr:=fun _ _ σ H _ I h=>wpAny_execs_nil ⟨σ,H,I,h⟩
theorem Dv(h1:PS X st t)(h2:PSs X dv u):PSs X (st::dv) (Mc t u):=by
 intro pins s σ H D I h
 refine wpAny_execs_cons (fA (h1 pins s σ H {D with nx:=u D} I h) fun f s1 q=>?_)
 cases f with
 |next=>
  obtain⟨σ',H',I',q⟩:=q
  exact h2 pins s1 σ' H' D I' q
 |ret v=>exact q
 |brk=>exact q
 |cont=>exact q
theorem Gd(h1:PS X st t):PSs X [st] t:=by
 intro pins s σ H D I h
 refine wpAny_execs_cons (fA (h1 pins s σ H D I h) fun f s1 q=>?_)
 cases f with
 |next=>exact wpAny_execs_nil q
 |ret v=>exact q
 |brk=>exact q
 |cont=>exact q
theorem Inv.quiet{σ:St}{H:Hp}{s:Shared}(I:Inv X pins σ H s):interactive X.env=false:=by simp[interactive,I.ok.kind]
def Ks(te:TE):TS:=fun D σ H=>te σ H fun _ H1=>D.nx σ H1
theorem Ge(he:PE X e te)(hs:swapsWith e none pos.line X.env=pure false:=by rfl):PS X (.Expr e pos) (Ks te):=by
 intro pins s σ H D I h
 exact wpAny_Expr_any (fA (he pins s σ H _ I h) fun v s1 ⟨x,H1,I1,r1,q1⟩=>⟨σ,H1,I1,q1⟩) I.quiet hs
def Me(te:TE):TS:=fun D σ H=>te σ H D.rt
theorem IE(he:PE X e te):PS X (.Return (some e) pos) (Me te):=by
 intro pins s σ H D I h
 exact wpAny_Return_some (fA (he pins s σ H _ I h) fun v s1 ⟨x,H1,I1,r1,q1⟩=>⟨x,σ,H1,I1,r1,q1⟩)
def Mf(c:TT)(t u:TS):TS:=fun D σ H=>c σ H fun b H1=>if b=true then t D σ H1 else u D σ H1
theorem Kt{c:Expr}{a b:List Stmt}{tc:TT}(hc:PT X c tc)(ha:PSs X a t)(hb:PSs X b u):PS X (.If c a b pos) (Mf tc t u):=by
 intro pins s σ H D I h
 refine wpAny_If (fA (hc pins s σ H _ I h) fun d s1 ⟨H1,I1,q1⟩=>?_)
 cases d with
 |true=>exact ha pins s1 σ H1 D I1 q1
 |false=>exact hb pins s1 σ H1 D I1 q1
def IF:TS:=fun _ _ _=>False
theorem Dw:PS X st IF:=fun _ _ _ _ _ _ h=>h.elim
end
abbrev TG:=V→St→Hp→(St→Hp→Prop)→Prop
abbrev Gf:=List V→St→Hp→(St→Hp→Prop)→Prop
def PG(X:Cx)(target:Expr)(t:TG):Prop:=
 ∀(pins:List (Addr×Obj)) (s:Shared) (σ:St) (H:Hp) (v:V) (u:Value) (Q:St→Hp→Prop),Inv X pins σ H s→RelV v u→t v σ H Q→
  wpAny (model X.prog X.w) X.A (assign target X.env u) (fun _ s'=>∃σ' H',Inv X pins σ' H' s'∧Q σ' H') X.xe s
def IG(X:Cx)(ts:List Expr)(t:Gf):Prop:=
 ∀(pins:List (Addr×Obj)) (s:Shared) (σ:St) (H:Hp) (vs:List V) (us:List Value) (Q:St→Hp→Prop),Inv X pins σ H s→Vals vs us→t vs σ H Q→
  wpAny (model X.prog X.w) X.A (assignInOrder ((assignEach ts X.env).map (·.2)) us) (fun _ s'=>∃σ' H',Inv X pins σ' H' s'∧Q σ' H') X.xe s
section
variable {X:Cx} {pos:Pos}
def Dx(i:Nat):TG:=fun v σ H Q=>Q (σ.set i (some v)) H
theorem Ay{i:Nat}(hN:X.N.Nodup)(hi:X.N[i]? =some x)(hx:Iw X.env.scope x)(hf:X.fn x=true∨X.env.scope.names.lookup x=some .local:=by first |exact .inl rfl |exact .inr rfl |assumption):PG X (.Name x pos) (Dx i):=by
 intro pins s σ H v u Q I r h
 exact wpAny_assign_Name (re I hN hi hx r (fun s' I'=>⟨_,H,I',h⟩) hf)
def Mg:Gf:=fun vs σ H Q=>vs=[]∧Q σ H
def Ku(t:TG)(u:Gf):Gf:=fun vs σ H Q=>∃v r,vs=v::r∧t v σ H fun σ' H'=>u r σ' H' Q
theorem Gg:IG X [] Mg:=by
 intro pins s σ H vs us Q I r h
 obtain⟨e,h⟩:=h
 subst e
 cases r
 exact assignInOrder_nil ⟨σ,H,I,h⟩
theorem Dy{es:List Expr}{t:TG}{u:Gf}(h1:PG X e t)(h2:IG X es u)
  (hs:(assignEach (e::es) X.env).map (·.2)=assign e X.env::(assignEach es X.env).map (·.2):=by rfl):IG X (e::es) (Ku t u):=by
 intro pins s σ H vs us Q I r h
 obtain⟨v,vr,e1,h⟩:=h
 subst e1
 cases r with
 |cons r rr=>
  rw[hs]
  refine assignInOrder_cons (fA (h1 pins s σ H _ _ _ I r h) fun _ s1 ⟨σ1,H1,I1,q1⟩=>?_)
  exact h2 pins s1 σ1 H1 _ _ Q I1 rr q1
def Mh(K:Frag)(n:Nat)(t:Gf):TG:=fun v σ H Q=>∃a xs,v=.ref a∧SqT K H a xs∧xs.length=n∧t xs σ H Q
theorem IH{es:List Expr}{t:Gf}{n:Nat}(hc:X.calm=true)(h:IG X es t)
  (hn:(assignEach es X.env).length=n:=by rfl) (hst:(assignEach es X.env).findIdx? (·.1)=none:=by rfl):PG X (.Tuple es k pos) (Mh X.K n t):=by
 intro pins s σ H v u Q I r hw
 obtain⟨a,xs,e1,hq,hl,hw⟩:=hw
 subst e1
 cases r
 obtain⟨its,rv,ht,hz⟩:=I.tuple hq
 refine assign_Tuple_tuple (I.ok.hd hc) ht (by simp[hn,←hl,rv.length]) hst fun h' hx=>?_
 have I1:Inv X pins σ H {s with heap:=h'}:=I.kept (t':=s.toks) fun b o e=>hx b o (jE (iC e)) e
 exact h pins _ σ H xs _ Q I1 (by simpa using rv) hw
def Kv(te:TE)(g:TG):TS:=fun D σ H=>te σ H fun x H1=>g x σ H1 D.nx
theorem II{i:Nat}{te:TE}(hN:X.N.Nodup)(hi:X.N[i]? =some x)(hx:Iw X.env.scope x)(he:PE X e te)(hs:swapsWith e (some (.Name x pos')) pos.line X.env=pure false:=by rfl)(hf:X.fn x=true∨X.env.scope.names.lookup x=some .local:=by first |exact .inl rfl |exact .inr rfl |assumption):
  PS X (.Assign [.Name x pos'] e pos) (Kv te (Dx i)):=by
 intro pins s σ H D I h
 refine wpAny_Assign_Name (fA (he pins s σ H _ I h) fun v s1 ⟨y,H1,I1,r1,q1⟩=>?_) hs
 exact re I1 hN hi hx r1 (fun s2 I2=>⟨_,H1,I2,q1⟩) hf
end
structure It where
 go:Nat→Hp→Prop
 yld:Nat→Hp→V→Hp→Prop
 stop:Nat→Hp→Prop
def wq(X:Cx)(pins:List (Addr×Obj))(H:Hp)(b:Addr):Prop:=
 H b=none∧b≠X.env.locals∧b∉X.fs∧(b∈X.ex∨X.s₀.heap.objs.size≤b)∧(∀x c,X.env.cells.lookup x=some c→c≠b)∧∀p∈X.pn++pins,p.1≠b
theorem Inv.fpOk{σ:St}{H:Hp}{s:Shared}{b:Addr}(I:Inv X pins σ H s)(hb:s.heap.objs.size≤b)(hn:H' b=none):wq X pins H' b:=by
 refine⟨hn,Nat.ne_of_gt (nZ I.lt hb),I.nofs hb,.inr (jS I.sz hb),fun x c e z=>?_,fun p hp z=>?_⟩
 ·obtain⟨v,q⟩:=I.cell x c e
  exact absurd (nZ q.lt (by rw[z];exact hb)) (Nat.lt_irrefl _)
 ·exact absurd (nZ (iC (I.pin p hp).1) (by rw[z];exact hb)) (Nat.lt_irrefl _)
structure Turn (P:Program) (w:World) (K:Frag) (tg:Expr) (J:It) (fp:List Addr) (it:Addr) (tn:Nat→Heap→Prop):Prop where
 mem:it∈fp
 obj:∀i h,tn i h→∀b∈fp,∃o,h.get? b=some o∧∀v,o.data≠ .cell v
 keep:∀i h h',tn i h→(∀b∈fp,∀o,h.get? b=some o→h'.get? b=some o)→tn i h'
 item:∀(X:Cx),X.prog=P→X.w=w→X.K=K→X.calm=true→∀(i:Nat) (pins:List (Addr×Obj)) (s:Shared) (σ:St) (H:Hp) (E:Value→Shared→Prop),Inv X pins σ H s→(∀b∈fp,wq X pins H b)→tn i s.heap→J.go i H→
  wpAny (model P w) X.A (pyNext (.ref it)) (fun r s1=>∃u,r=some u∧
   wpAny (model P w) X.A (letOwnedTupleGo tg (.ref it) u) (fun _ s2=>∃x H',Inv X pins σ H' s2∧RelV x u∧J.yld i H x H'∧tn (i+1) s2.heap∧∀b∈fp,H' b=none) E s1) E s
 done:∀(X:Cx),X.prog=P→X.w=w→X.K=K→X.calm=true→∀(i:Nat) (pins:List (Addr×Obj)) (s:Shared) (σ:St) (H:Hp) (E:Value→Shared→Prop),Inv X pins σ H s→(∀b∈fp,wq X pins H b)→tn i s.heap→J.stop i H→
  wpAny (model P w) X.A (pyNext (.ref it)) (fun r s1=>r=none∧Inv X pins σ H s1) E s
 self:∀(A:Around) (i:Nat) (s:Shared) (Q:Value→Shared→Prop) (E:Value→Shared→Prop),tn i s.heap→Q (.ref it) s→wpAny (model P w) A (pyIter (.ref it)) Q E s
abbrev TI:=St→Hp→(It→Hp→Prop)→Prop
def Nj(X:Cx)(pins:List (Addr×Obj))(σ:St)(tg:Expr)(R:It→Hp→Prop)(itv:Value)(s2:Shared):Prop:=
 ∃(it:Addr) (fp:List Addr) (tn:Nat→Heap→Prop) (J:It) (H':Hp),itv=.ref it∧Inv X pins σ H' s2∧Turn X.prog X.w X.K tg J fp it tn∧tn 0 s2.heap∧(∀b∈fp,wq X pins H' b)∧R J H'
def PI(X:Cx)(tg iter:Expr)(wi:TI):Prop:=
 ∀(pins:List (Addr×Obj)) (s:Shared) (σ:St) (H:Hp) (R:It→Hp→Prop),Inv X pins σ H s→wi σ H R→
  wpAny (model X.prog X.w) X.A (eval iter X.env) (fun v s1=>wpAny (model X.prog X.w) X.A (pyIter v) (Nj X pins σ tg R) X.xe s1) X.xe s
theorem wt{M:Model}{A:Around}{E:Value→Shared→Prop}{s:Shared}{tg:Expr}{it:Addr}{u:Value}{o:Obj}{n:String}{vs:Array Value}{Q:Unit→Shared→Prop}(ho:s.heap.get? it=some o)(hc:o.cls=.type n)(hd:o.data=.fields vs)
  (hn:["enumerate","zip","dict_itemiterator","dict_reverseitemiterator","odict_iterator","itertools.zip_longest","itertools.pairwise"].contains n=false) (hQ:Q () s):wpAny M A (letOwnedTupleGo tg (.ref it) u) Q E s:=by
 unfold letOwnedTupleGo
 cases tg <;> first
  |exact zz1 hQ
  |(cases u <;> first
    |exact zz1 hQ
    |(refine zz0 (wpAny_load ho ?_)
      rw[hc,hd]
      show wpAny M A (if (["enumerate","zip","dict_itemiterator","dict_reverseitemiterator","odict_iterator","itertools.zip_longest","itertools.pairwise"].contains n&&vs[0]? == some (rawInt _))=true then _ else _) Q E s
      rw[if_neg (by intro h;rw[hn,Bool.false_and]at h;cases h)]
      exact zz1 hQ))
def Mi(K:Frag)(a:Addr):It:=
 ⟨fun i H=>∃xs x,SqL K H a xs∧xs[i]? =some x,fun i H x H'=>H'=H∧∀xs,SqL K H a xs→xs[i]? =some x,fun i H=>∃xs,SqL K H a xs∧xs.length≤i⟩
def Mj(K:Frag)(a:Addr):It:=
 ⟨fun i H=>∃xs x,SqT K H a xs∧xs[i]? =some x,fun i H x H'=>H'=H∧∀xs,SqT K H a xs→xs[i]? =some x,fun i H=>∃xs,SqT K H a xs∧xs.length≤i⟩
def Kw(lo:Int)(n:Nat):It:=⟨fun i _=>i < n,fun i H x H'=>H'=H∧x=.int (lo+i),fun i _=>n≤i⟩
theorem BR{w:World}{K:Frag}{tg:Expr}(a it:Addr):Turn P w K tg (Mi K a) [it] it (fun i h=>h.IsListIter it a i) where
 mem:=by simp
 obj:=fun i h st b hb=>by
  have e:b=it:=by simpa using hb
  subst e
  obtain⟨o,e,c,d⟩:=st
  exact⟨o,e,fun v z=>by rw[d]at z;cases z⟩
 keep:=fun i h h' st k=>st.at fun o e=>k it (by simp) o e
 item:=by
  intro X hP hw hK hc i pins s σ H E I hf st hg
  subst hP hw hK
  obtain⟨xs,x,hq,hx⟩:=hg
  obtain⟨its,rv,p,hz⟩:=I.list hq
  obtain⟨u,hu,ru⟩:=rv.get hx
  obtain⟨f0,f1,f2,f3,f4,f5⟩:=hf it (by simp)
  refine wpAny_pyNext_list_item st p.isList (x:=u) (by simpa using hu) fun h' st' sb=>?_
  have I1:Inv X pins σ H {s with heap:=h'}:=I.turned (t':=s.toks) (fun b o hb e=>(sb.2 b hb).trans e) f0 f1 f3 f4 f5
  obtain⟨o,e,c,d⟩:=id st'
  exact⟨u,rfl,wt (s:={s with heap:=h'}) e c d (by decide) ⟨x,H,I1,ru,⟨rfl,fun ys hy=>by rw[I.list_inj hy hq];exact hx⟩,st',fun b hb=>(hf b hb).1⟩⟩
 done:=by
  intro X hP hw hK hc i pins s σ H E I hf st hg
  subst hP hw hK
  obtain⟨xs,hq,hx⟩:=hg
  obtain⟨its,rv,p,hz⟩:=I.list hq
  obtain⟨f0,f1,f2,f3,f4,f5⟩:=hf it (by simp)
  have hl:=rv.length
  exact wpAny_pyNext_list_end (I.ok.hd hc) st p.isList (by simp;omega) fun h' eb=>⟨rfl,I.turned (t':=s.toks) (fun b o hb e=>eb b o hb e) f0 f1 f3 f4 f5⟩
 self:=fun _ _ _ _ _ st h=>wpAny_pyIter_listiter st h
theorem yZ{w:World}{K:Frag}{tg:Expr}(a it:Addr):Turn P w K tg (Mj K a) [it] it (fun i h=>h.IsTupleIter it a i) where
 mem:=by simp
 obj:=fun i h st b hb=>by
  have e:b=it:=by simpa using hb
  subst e
  obtain⟨o,e,c,d⟩:=st
  exact⟨o,e,fun v z=>by rw[d]at z;cases z⟩
 keep:=fun i h h' st k=>st.at fun o e=>k it (by simp) o e
 item:=by
  intro X hP hw hK hc i pins s σ H E I hf st hg
  subst hP hw hK
  obtain⟨xs,x,hq,hx⟩:=hg
  obtain⟨its,rv,p,hz⟩:=I.tuple hq
  obtain⟨u,hu,ru⟩:=rv.get hx
  obtain⟨f0,f1,f2,f3,f4,f5⟩:=hf it (by simp)
  refine wpAny_pyNext_tuple_item st (show s.heap.IsTuple a its.toArray from p) (x:=u) (by simpa using hu) fun h' st' sb=>?_
  have I1:Inv X pins σ H {s with heap:=h'}:=I.turned (t':=s.toks) (fun b o hb e=>(sb.2 b hb).trans e) f0 f1 f3 f4 f5
  obtain⟨o,e,c,d⟩:=id st'
  exact⟨u,rfl,wt (s:={s with heap:=h'}) e c d (by decide) ⟨x,H,I1,ru,⟨rfl,fun ys hy=>by rw[I.tuple_inj hy hq];exact hx⟩,st',fun b hb=>(hf b hb).1⟩⟩
 done:=by
  intro X hP hw hK hc i pins s σ H E I hf st hg
  subst hP hw hK
  obtain⟨xs,hq,hx⟩:=hg
  obtain⟨its,rv,p,hz⟩:=I.tuple hq
  obtain⟨f0,f1,f2,f3,f4,f5⟩:=hf it (by simp)
  have hl:=rv.length
  exact wpAny_pyNext_tuple_end (I.ok.hd hc) st (show s.heap.IsTuple a its.toArray from p) (by simp;omega) fun h' eb=>⟨rfl,I.turned (t':=s.toks) (fun b o hb e=>eb b o hb e) f0 f1 f3 f4 f5⟩
 self:=fun _ _ _ _ _ st h=>wpAny_pyIter_tupleiter st h
theorem y_{w:World}{K:Frag}{tg:Expr}(it:Addr)(lo:Int)(n:Nat):Turn P w K tg (Kw lo n) [it] it (fun i h=>IsRangeIter h it (lo+(i:Nat)*1) ((n:Int) - (i:Nat)) 1) where
 mem:=by simp
 obj:=fun i h st b hb=>by
  have e:b=it:=by simpa using hb
  subst e
  exact⟨_,st,fun v z=>by
   have z':Data.fields _=Data.cell v:=z
   cases z'⟩
 keep:=fun i h h' st k=>k it (by simp) _ st
 item:=by
  intro X hP hw hK hc i pins s σ H E I hf st hg
  subst hP hw hK
  obtain⟨f0,f1,f2,f3,f4,f5⟩:=hf it (by simp)
  have W:=Walks.range (prog:=X.prog) (w:=X.w) (I.ok.hd hc) it lo 1 n
  refine W.item i s _ _ hg st fun v h' tk hv st' kk=>?_
  obtain⟨t,rfl⟩:=hv
  have I1:Inv X pins σ H {s with heap:=h',toks:=tk}:=I.turned (fun b o hb e=>kk b o (by simpa using hb) e) f0 f1 f3 f4 f5
  refine⟨_,rfl,wt (s:={s with heap:=h',toks:=tk}) (n:="range_iterator") st' rfl rfl (by decide) ⟨.int (lo+i),H,I1,⟨t,?_⟩,⟨rfl,rfl⟩,st',fun b hb=>(hf b hb).1⟩⟩
  rw[Int.mul_one]
 done:=by
  intro X hP hw hK hc i pins s σ H E I hf st hg
  subst hP hw hK
  obtain⟨f0,f1,f2,f3,f4,f5⟩:=hf it (by simp)
  exact wpAny_pyNext_range_end (I.ok.hd hc) st (by have:n≤i:=hg;omega) fun h' eb=>⟨rfl,I.turned (t':=s.toks) (fun b o hb e=>eb b o hb e) f0 f1 f3 f4 f5⟩
 self:=fun _ _ _ _ _ st h=>wpAny_pyIter_rangeiter st h
end L2
namespace L2
open PySem PySem.Spec PyProof.Rows
section
variable {X:Cx} {tg:Expr}
def Kx(K:Frag)(tl:TE):TI:=fun σ H R=>tl σ H fun x H1=>∃a,x=.ref a∧(∃xs,SqL K H1 a xs)∧R (Mi K a) H1
def Mk(K:Frag)(tl:TE):TI:=fun σ H R=>tl σ H fun x H1=>∃a,x=.ref a∧(∃xs,SqT K H1 a xs)∧R (Mj K a) H1
theorem Az{l:Expr}{tl:TE}(hl:PE X l tl):PI X tg l (Kx X.K tl):=by
 intro pins s σ H R I h
 refine fA (hl pins s σ H _ I h) fun v s1 ⟨x,H1,I1,r1,q1⟩=>?_
 obtain⟨a,e,⟨xs,hq⟩,q⟩:=q1
 subst e
 cases r1
 obtain⟨its,rv,p,hz⟩:=I1.list hq
 refine wpAny_pyIter_list p.isList ?_
 refine⟨s1.heap.objs.size,[s1.heap.objs.size],_,_,H1,rfl,I1.kept (t':=s1.toks) fun b o e=>iB _ e,BR a _,⟨_,nY _ rfl,rfl,rfl⟩,fun b hb=>?_,q⟩
 have e:b=s1.heap.objs.size:=by simpa using hb
 subst e
 exact I1.fpOk (gR _) (I1.hok.fresh (gR _))
theorem IJ{l:Expr}{tl:TE}(hl:PE X l tl):PI X tg l (Mk X.K tl):=by
 intro pins s σ H R I h
 refine fA (hl pins s σ H _ I h) fun v s1 ⟨x,H1,I1,r1,q1⟩=>?_
 obtain⟨a,e,⟨xs,hq⟩,q⟩:=q1
 subst e
 cases r1
 obtain⟨its,rv,p,hz⟩:=I1.tuple hq
 refine wpAny_pyIter_tuple (show s1.heap.IsTuple a its.toArray from p) ?_
 refine⟨s1.heap.objs.size,[s1.heap.objs.size],_,_,H1,rfl,I1.kept (t':=s1.toks) fun b o e=>iB _ e,yZ a _,⟨_,nY _ rfl,rfl,rfl⟩,fun b hb=>?_,q⟩
 have e:b=s1.heap.objs.size:=by simpa using hb
 subst e
 exact I1.fpOk (gR _) (I1.hok.fresh (gR _))
theorem wu{σ:St}{H:Hp}{s:Shared}{R:It→Hp→Prop}{E:Value→Shared→Prop}{lo hi:Int}{t u v:Tok}{tk:Nat}(I:Inv X pins σ H s)(h1: -(2 ^ 62)≤lo)(h2:lo < 2 ^ 62)(h3: -(2 ^ 62)≤hi)(h4:hi < 2 ^ 62)
  (q:R (Kw lo (hi - lo).toNat) H):wpAny (model X.prog X.w) X.A (pyIter (.ref s.heap.objs.size)) (Nj X pins σ tg R) E {s with heap:=s.heap.push {cls:=.type "range",data:=.fields #[.int lo t,.int hi u,.int 1 v]},toks:=tk}:=by
 refine wpAny_pyIter_range (IsRange.new ..) (small_one h1 h2 h3 h4) ?_
 have I1:Inv X pins σ H {s with heap:=s.heap.push {cls:=.type "range",data:=.fields #[.int lo t,.int hi u,.int 1 v]},toks:=tk}:=I.kept fun b o e=>iB _ e
 refine⟨(s.heap.push {cls:=.type "range",data:=.fields #[.int lo t,.int hi u,.int 1 v]}).objs.size,[(s.heap.push {cls:=.type "range",data:=.fields #[.int lo t,.int hi u,.int 1 v]}).objs.size],_,_,H,rfl,
  I1.kept (t':=tk) fun b o e=>iB _ e,y_ _ lo (hi - lo).toNat,?_,fun b hb=>?_,q⟩
 ·have e1:lo+((0:Nat):Int)*1=lo:=by simp
  have e2:(((hi - lo).toNat:Nat):Int) - ((0:Nat):Int)=Builtin.Range.rangeSize lo hi 1:=by rw[rangeSize_one];split <;> omega
  show IsRangeIter _ _ (lo+((0:Nat):Int)*1) ((((hi - lo).toNat:Nat):Int) - ((0:Nat):Int)) 1
  rw[e1,e2]
  exact nY _ rfl
 ·have e:b=(s.heap.push {cls:=.type "range",data:=.fields #[.int lo t,.int hi u,.int 1 v]}).objs.size:=by simpa using hb
  subst e
  exact I1.fpOk (gR _) (I1.hok.fresh (gR _))
def Kz(ta:TA):TI:=fun σ H R=>ta σ H fun vs H1=>∃j:Int,vs=[.int j]∧ -(2 ^ 62)≤j∧j < 2 ^ 62∧R (Kw 0 j.toNat) H1
def KB(ta:TA):TI:=fun σ H R=>ta σ H fun vs H1=>∃i j:Int,vs=[.int i,.int j]∧(-(2 ^ 62)≤i∧i < 2 ^ 62∧ -(2 ^ 62)≤j∧j < 2 ^ 62)∧R (Kw i (j - i).toNat) H1
theorem BS{a:Expr} {ta:TA} {pos:Pos} (hg:Gl X "range") (hm:X.mg "range"=none) (ha:PA X [a] ta) (hs:starEach [a] X.env=[(false,eval a X.env)]:=by rfl):PI X tg (.Call (.Name "range" p) [a] [] pos) (Kz ta):=by
 intro pins s σ H R I h
 refine Call_ (mZ I hg hm boot_range (PyProof.Rows.callWith_type1 (fA (ha pos pins s σ H _ I h) fun us s1 ⟨vs,H1,I1,r1,q1⟩=>?_) hs rfl))
 obtain⟨j,e,q1,q2,q⟩:=q1
 subst e
 cases r1 with
 |cons r rr=>
  cases rr
  obtain⟨t,rfl⟩:=r
  exact call_range_1 (wu I1 (by omega) (by omega) q1 q2 (by simpa using q))
theorem BT{a b:Expr} {ta:TA} {pos:Pos} (hg:Gl X "range") (hm:X.mg "range"=none) (ha:PA X [a,b] ta) (hs:starEach [a,b] X.env=[(false,eval a X.env),(false,eval b X.env)]:=by rfl) (hs2:starEach [b] X.env=[(false,eval b X.env)]:=by rfl):
  PI X tg (.Call (.Name "range" p) [a,b] [] pos) (KB ta):=by
 intro pins s σ H R I h
 refine Call_ (mZ I hg hm boot_range (PyProof.Rows.callWith_type1 (fA (ha pos pins s σ H _ I h) fun us s1 ⟨vs,H1,I1,r1,q1⟩=>?_) (by rw[hs,hs2]) (by rw[hs2];rfl)))
 obtain⟨i,j,e,⟨q1,q2,q3,q4⟩,q⟩:=q1
 subst e
 cases r1 with
 |cons r rr=>
  cases rr with
  |cons r' rr=>
   cases rr
   obtain⟨t,rfl⟩:=r
   obtain⟨t',rfl⟩:=r'
   exact call_range_2 (wu I1 q1 q2 q3 q4 q)
def Ml(wi:TI)(g:TG)(tb:TS):TS:=fun D σ H=>wi σ H fun J H1=>∃W:Nat→Nat→St→Hp→Prop,(∃m,W 0 m σ H1)∧∀i m σ H,W i m σ H→
 (J.stop i H∧D.nx σ H)∨(J.go i H∧∃N:St→Hp→Prop,(∀σ' H',N σ' H'→∃m',m' < m∧W (i+1) m' σ' H')∧∀x H',J.yld i H x H'→g x σ H' fun σ2 H2=>tb {D with nx:=N,ct:=N,bk:=D.nx} σ2 H2)
def rf(fp:List Addr)(h:Heap):List (Addr×Obj):=fp.filterMap fun b=>(h.get? b).map fun o=>(b,o)
theorem kj{b:Addr}{o:Obj}(hb:b∈fp)(e:h.get? b=some o):(b,o)∈rf fp h:=List.mem_filterMap.mpr ⟨b,hb,by rw[e];rfl⟩
theorem BU{p:Addr×Obj}(hp:p∈rf fp h):p.1∈fp∧h.get? p.1=some p.2:=by
 obtain⟨b,hb,e⟩:=List.mem_filterMap.mp hp
 cases q:h.get? b with
 |none=>rw[q]at e;cases e
 |some o=>
  rw[q]at e
  have e':(b,o)=p:=Option.some.inj e
  subst e'
  exact⟨hb,q⟩
theorem Inv.pinned{σ:St}{H:Hp}{s:Shared}(I:Inv X pins σ H s)(hf:∀b∈fp,wq X pins H b)(ho:∀b∈fp,∃o,s.heap.get? b=some o∧∀v,o.data≠ .cell v):Inv X (pins++rf fp s.heap) σ H s:=
 I.pins_of fun p hp=>(Zai.mp hp).elim (fun z=>I.pin p (wk _ z)) fun z=>by
  obtain⟨hb,e⟩:=BU z
  obtain⟨f0,f1,f2,_⟩:=hf p.1 hb
  obtain⟨o,e',d⟩:=ho p.1 hb
  rw[e]at e';cases e'
  exact⟨e,f0,f1,f2,d⟩
theorem Inv.unpinned{pl:List (Addr×Obj)}{σ:St}{H:Hp}{s:Shared}(I:Inv X (pins++pl) σ H s):Inv X pins σ H s:=I.pins_of fun p hp=>I.pin p (wk _ (List.mem_append_left _ hp))
theorem IK{wi:TI}{g:TG}{tb:TS}{pos:Pos}(hp:PassesOwn (model X.prog X.w) X.A X.env X.xe)(hc:X.calm=true)(hi:PI X tg iter wi)(hg:PG X tg g)(hb:PSs X body tb)
  (hs:∀x,foldedSetIterable iter X.env x=pure x:=by intro _;rfl):PS X (.For tg iter body [] pos) (Ml wi g tb):=by
 intro pins s σ H D I h
 refine wpAny_For (fA (hi pins s σ H _ I h) fun v s1 h1=>fA h1 fun itv s2 h2=>?_) hs
 obtain⟨it,fp,tn,J,H2,e,I2,T,st2,f2,W,⟨m0,w0⟩,turn⟩:=h2
 subst e
 -- what stays true of the iterator's objects through the loop
 have stat:∀{H':Hp},(∀b∈fp,H' b=none)→∀b∈fp,wq X pins H' b:=fun hn b hb=>⟨hn b hb,(f2 b hb).2⟩
 refine codeAny_forLoop_any (fun n s'=>∃i σ' H',Inv X pins σ' H' s'∧tn i s'.heap∧(∀b∈fp,H' b=none)∧W i n σ' H') ?_ m0 ⟨0,σ,H2,I2,st2,fun b hb=>(f2 b hb).1,w0⟩
 rintro n s3 ⟨i,σ3,H3,I3,st3,fr3,w3⟩
 rcases turn i n σ3 H3 w3 with⟨stop,qn⟩ |⟨go,N,hN,step⟩
 ·refine wpAny_passesOwn hp (fA (T.done X rfl rfl rfl hc i pins s3 σ3 H3 X.xe I3 (stat fr3) st3 stop) fun r s4 ⟨hr,I4⟩=>?_)
  subst hr
  exact wpAny_execs_nil ⟨σ3,H3,I4,qn⟩
 ·refine wpAny_passesOwn hp (fA (T.item X rfl rfl rfl hc i pins s3 σ3 H3 X.xe I3 (stat fr3) st3 go) fun r s4 ⟨u,hr,h4⟩=>?_)
  subst hr
  refine wpAny_passesOwn hp (fA h4 fun _ s5 ⟨x,H5,I5,r5,y5,st5,fr5⟩=>?_)
  have I5':=I5.pinned (stat fr5) (T.obj _ _ st5)
  refine wpAny_passesOwn hp (fA (hg _ s5 σ3 H5 x u _ I5' r5 (step x H5 y5)) fun _ s6 ⟨σ6,H6,I6,q6⟩=>?_)
  refine wpAny_passesOwn hp (fA (hb _ s6 σ6 H6 _ I6 q6) fun f s7 q7=>?_)
  have again:∀{σ7:St} {H7:Hp},Inv X (pins++rf fp s5.heap) σ7 H7 s7→N σ7 H7→∃m,m < n∧∃i σ' H',Inv X pins σ' H' s7∧tn i s7.heap∧(∀b∈fp,H' b=none)∧W i m σ' H':=fun {σ7 H7} I7 n7=>by
   obtain⟨m',hm,w7⟩:=hN σ7 H7 n7
   refine⟨m',hm,i+1,σ7,H7,I7.unpinned,T.keep _ _ _ st5 fun b hb o e=>(I7.pin (b,o) (wk _ (wk _ (kj hb e)))).1,fun b hb=>?_,w7⟩
   obtain⟨o,e,d⟩:=T.obj _ _ st5 b hb
   exact(I7.pin (b,o) (wk _ (wk _ (kj hb e)))).2.1
  cases f with
  |next=>obtain⟨σ7,H7,I7,n7⟩:=q7;exact again I7 n7
  |cont=>obtain⟨σ7,H7,I7,n7⟩:=q7;exact again I7 n7
  |brk=>obtain⟨σ7,H7,I7,q7⟩:=q7;exact⟨σ7,H7,I7.unpinned,q7⟩
  |ret v=>obtain⟨x7,σ7,H7,I7,r7,q7⟩:=q7;exact⟨x7,σ7,H7,I7.unpinned,r7,q7⟩
end
end L2
namespace L2
open PySem PySem.Spec PyProof.Rows
abbrev R2:=V→V→Hp→VK→Prop
def OpR(X:Cx)(f:Value→Value→Sem Value)(r:R2):Prop:=
 ∀(pins:List (Addr×Obj)) (s:Shared) (σ:St) (H:Hp) (x y:V) (v u:Value) (Q:VK),Inv X pins σ H s→RelV x v→RelV y u→r x y H Q→
  wpAny (model X.prog X.w) X.A (f v u) (EP X pins σ Q) X.xe s
def Mm(X:Cx)(f:Value→Sem Value)(r:V→Hp→VK→Prop):Prop:=
 ∀(pins:List (Addr×Obj)) (s:Shared) (σ:St) (H:Hp) (x:V) (v:Value) (Q:VK),Inv X pins σ H s→RelV x v→r x H Q→
  wpAny (model X.prog X.w) X.A (f v) (EP X pins σ Q) X.xe s
def CallR(X:Cx)(f:Value)(r:List V→Hp→VK→Prop):Prop:=
 ∀(pins:List (Addr×Obj)) (s:Shared) (σ:St) (H:Hp) (xs:List V) (us:List Value) (Q:VK),Inv X pins σ H s→Vals xs us→r xs H Q→
  wpAny (model X.prog X.w) X.A (call f us) (EP X pins σ Q) X.xe s
def Mn(X:Cx)(r:V→Hp→(Bool→Hp→Prop)→Prop):Prop:=
 ∀(pins:List (Addr×Obj)) (s:Shared) (σ:St) (H:Hp) (x:V) (v:Value) (Q:Bool→Hp→Prop),Inv X pins σ H s→RelV x v→r x H Q→
  wpAny (model X.prog X.w) X.A (truthy v) (TP X pins σ Q) X.xe s
def KC(r:R2)(ta tb:TE):TE:=fun σ H Q=>ta σ H fun x H1=>tb σ H1 fun y H2=>r x y H2 Q
def NB(r:V→Hp→VK→Prop)(ta:TE):TE:=fun σ H Q=>ta σ H fun x H1=>r x H1 Q
def rI(C:Int→Int→Prop)(g:Int→Int→V):R2:=fun x y H Q=>∃i j,x=.int i∧y=.int j∧C i j∧Q (g i j) H
def Gh(g:Int→Int→V):R2:=fun x y H Q=>∃i j,x=.int i∧y=.int j∧Q (g i j) H
def rU(g:Int→V):V→Hp→VK→Prop:=fun x H Q=>∃i,x=.int i∧Q (g i) H
section
variable {X:Cx} {a b c:Expr} {ta tb tc:TE} {pos:Pos}
theorem IL(ha:PE X a ta)(hb:PE X b tb){s:Shared}{σ:St}{H:Hp}{R:V→V→Hp→Prop}(I:Inv X pins σ H s)
  (h:ta σ H fun x H1=>tb σ H1 fun y H2=>R x y H2)  {f:Value→Value→Sem Value}
  (hf:∀v u s2 x y H2,Inv X pins σ H2 s2→RelV x v→RelV y u→R x y H2→wpAny (model X.prog X.w) X.A (f v u) Q X.xe s2):
  wpAny (model X.prog X.w) X.A (eval a X.env) (fun v s₁=>wpAny (model X.prog X.w) X.A (eval b X.env) (fun u s₂=>wpAny (model X.prog X.w) X.A (f v u) Q X.xe s₂) X.xe s₁) X.xe s:=by
 refine fA (ha pins s σ H _ I h) fun v s1 ⟨x,H1,I1,r1,q1⟩=>?_
 refine fA (hb pins s1 σ H1 _ I1 q1) fun u s2 ⟨y,H2,I2,r2,q2⟩=>?_
 exact hf v u s2 x y H2 I2 r1 r2 q2
theorem KD{op:Operator}{r:R2}(ho:OpR X (binaryOp op) r)(ha:PE X a ta)(hb:PE X b tb):PE X (.BinOp a op b pos) (KC r ta tb):=by
 intro pins s σ H Q I h
 exact wpAny_BinOp (IL ha hb I h fun v u s2 x y H2 I2 rx ry q=>ho pins s2 σ H2 x y v u Q I2 rx ry q)
theorem KE{op:UnaryOp}{r:V→Hp→VK→Prop}(ho:Mm X (unaryOp op) r)(ha:PE X a ta):PE X (.UnaryOp op a pos) (NB r ta):=by
 intro pins s σ H Q I h
 exact UnaryOp_ (fA (ha pins s σ H _ I h) fun v s1 ⟨x,H1,I1,r1,q1⟩=>ho pins s1 σ H1 x v Q I1 r1 q1)
theorem KG{f:Value→Value→Sem Value}{C:Int→Int→Prop}{g:Int→Int→Int}
  (rule:∀(i j:Int) (t u:Tok) (s:Shared) (Q:Value→Shared→Prop) (E:Value→Shared→Prop),C i j→Q (.int (g i j) s.toks) {s with toks:=s.toks+1}→wpAny (model X.prog X.w) X.A (f (.int i t) (.int j u)) Q E s):
  OpR X f (rI C fun i j=>.int (g i j)):=by
 intro pins s σ H x y v u Q I rx ry h
 obtain⟨i,j,rfl,rfl,hc,q⟩:=h
 obtain⟨t,rfl⟩:=rx
 obtain⟨t',rfl⟩:=ry
 exact rule i j t t' s _ _ hc ⟨.int (g i j),H,I.tok _,⟨_,rfl⟩,q⟩
theorem IM{f:Value→Value→Sem Value}{g:Int→Int→Int}
  (rule:∀(i j:Int) (t u:Tok) (s:Shared) (Q:Value→Shared→Prop) (E:Value→Shared→Prop),Q (.int (g i j) s.toks) {s with toks:=s.toks+1}→wpAny (model X.prog X.w) X.A (f (.int i t) (.int j u)) Q E s):
  OpR X f (Gh fun i j=>.int (g i j)):=by
 intro pins s σ H x y v u Q I rx ry h
 obtain⟨i,j,rfl,rfl,q⟩:=h
 obtain⟨t,rfl⟩:=rx
 obtain⟨t',rfl⟩:=ry
 exact rule i j t t' s _ _ ⟨.int (g i j),H,I.tok _,⟨_,rfl⟩,q⟩
theorem Gi{f:Value→Value→Sem Value}{g:Int→Int→Bool}
  (rule:∀(i j:Int) (t u:Tok) (s:Shared) (Q:Value→Shared→Prop) (E:Value→Shared→Prop),Q (.bool (g i j)) s→wpAny (model X.prog X.w) X.A (f (.int i t) (.int j u)) Q E s):
  OpR X f (Gh fun i j=>.bl (g i j)):=by
 intro pins s σ H x y v u Q I rx ry h
 obtain⟨i,j,rfl,rfl,q⟩:=h
 obtain⟨t,rfl⟩:=rx
 obtain⟨t',rfl⟩:=ry
 exact rule i j t t' s _ _ ⟨.bl (g i j),H,I,rfl,q⟩
def KH(i j:Int):Prop:=0≤j∧j≤1000000∧i.natAbs < 2 ^ 64
def CMul(i j:Int):Prop:=(-(2 ^ 64) < i∧i < 2 ^ 64)∨(-(2 ^ 64) < j∧j < 2 ^ 64)
theorem CMul.ok{i j:Int}(h:CMul i j):IntMulOk i j:=by
 rcases h with⟨h1,h2⟩ |⟨h1,h2⟩
 ·exact .of_left (intBits_le_64 h1 h2)
 ·exact .of_right (intBits_le_64 h1 h2)
theorem zA(k:Nat):(0:Int)≤2 ^ k:=by
 rw[two_pow_cast]
 exact Int.natCast_nonneg _
theorem IN:OpR X (binaryOp .Add) (Gh fun i j=>.int (i+j)):=IM fun _ _ _ _ _ _ _ q=>add_int q
theorem IO:OpR X (binaryOp .Sub) (Gh fun i j=>.int (i - j)):=IM fun _ _ _ _ _ _ _ q=>sub_int q
theorem IQ:OpR X (binaryOp .Mod) (rI (fun _ j=>0 < j) fun i j=>.int (i % j)):=KG fun i j _ _ _ _ _ hc q=>by
 have h1:(0:Int) < j:=hc
 exact mod_int' (by omega) (by rw[Int.fmod_eq_emod_of_nonneg i (by omega)];exact q)
theorem IR:OpR X (binaryOp .Pow) (rI KH fun i j=>.int (i ^ j.toNat)):=KG fun _ _ _ _ _ _ _ hc q=>pow_int_small hc.1 hc.2.1 hc.2.2 q
theorem IS:OpR X (binaryOp .RShift) (rI (fun _ j=>0≤j) fun i j=>.int (i / 2 ^ j.toNat)):=KG fun i j _ _ _ _ _ hc q=>
 rshift_int hc (by rw[Int.fdiv_eq_ediv_of_nonneg i (zA _)];exact q)
theorem IT:OpR X (binaryOp .BitAnd) (Gh fun i j=>.int (Builtin.bitAnd i j)):=IM fun _ _ _ _ _ _ _ q=>and_int q
theorem NC{f:Value→Sem Value}{g:Int→Int}
  (rule:∀(i:Int) (t:Tok) (s:Shared) (Q:Value→Shared→Prop) (E:Value→Shared→Prop),Q (.int (g i) s.toks) {s with toks:=s.toks+1}→wpAny (model X.prog X.w) X.A (f (.int i t)) Q E s):
  Mm X f (rU fun i=>.int (g i)):=by
 intro pins s σ H x v Q I rx h
 obtain⟨i,rfl,q⟩:=h
 obtain⟨t,rfl⟩:=rx
 exact rule i t s _ _ ⟨.int (g i),H,I.tok _,⟨_,rfl⟩,q⟩
theorem IU:Mm X (unaryOp .USub) (rU fun i=>.int (-i)):=NC fun _ _ _ _ _ q=>neg_int q
end
def IV:V→V→Bool
 |.non,.non=>true |.non,.int _=>true |.int _,.non=>true |.non,.bl _=>true |.bl _,.non=>true |.non,.str _=>true |.str _,.non=>true
 |.int _,.int _=>true |.bl _,.bl _=>true |.str _,.str _=>true |.byt _,.byt _=>true
 |.int _,.str _=>true |.str _,.int _=>true |.bl _,.str _=>true |.str _,.bl _=>true
 |_,_=>false
def Nk:R2:=fun x y H Q=>IV x y=true∧Q (.bl (decide (x=y))) H
def Nl:R2:=fun x y H Q=>IV x y=true∧Q (.bl (!decide (x=y))) H
theorem AA{i j:Int}:decide (V.int i=V.int j)=(i == j):=by
 rw[Bool.eq_iff_iff]
 simp
theorem Dz{i j:Bool}:decide (V.bl i=V.bl j)=(i == j):=by
 rw[Bool.eq_iff_iff]
 simp
theorem AB{i j:Str}:decide (V.str i=V.str j)=(i == j):=by
 rw[Bool.eq_iff_iff]
 simp
theorem AC{i j:Array UInt8}:decide (V.byt i=V.byt j)=(i.toList == j.toList):=by
 rw[Bool.eq_iff_iff]
 cases i
 cases j
 simp
section
variable {X:Cx} {a b c:Expr} {ta tb tc:TE} {pos:Pos}
theorem bh{σ:St}{H:Hp}{s:Shared}{Q:VK}{k k':Bool}(I:Inv X pins σ H s)(q:Q (.bl k) H)(e:k=k'):EP X pins σ Q (.bool k') s:=by
 subst e
 exact⟨.bl k,H,I,rfl,q⟩
theorem HS:OpR X (compareOp .Eq) Nk:=by
 intro pins s σ H x y v u Q I rx ry h
 obtain⟨hs,q⟩:=h
 cases x with
 |non=>
  cases rx
  cases y with
  |non=>cases ry;exact PySem.EqNone.eq_none_none (bh I q (by simp))
  |bl j=>cases ry;exact PySem.EqNone.eq_none_bool (bh I q (by simp))
  |int j=>obtain⟨t',rfl⟩:=ry;exact PySem.EqNone.eq_none_int (bh I q (by simp))
  |str j=>obtain⟨t',rfl⟩:=ry;exact PySem.EqNone.eq_none_str (bh I q (by simp))
  |_=>exact absurd (show false=true from hs) uL
 |bl i=>
  cases rx
  cases y with
  |non=>cases ry;exact PySem.EqNone.eq_bool_none (bh I q (by simp))
  |bl j=>cases ry;exact eq_bool (bh I q Dz)
  |str j=>obtain⟨t',rfl⟩:=ry;exact PySem.EqMixed.eq_bool_str (bh I q (by simp))
  |_=>exact absurd (show false=true from hs) uL
 |int i=>
  obtain⟨t,rfl⟩:=rx
  cases y with
  |non=>cases ry;exact PySem.EqNone.eq_int_none (bh I q (by simp))
  |int j=>obtain⟨t',rfl⟩:=ry;exact eq_int (bh I q AA)
  |str j=>obtain⟨t',rfl⟩:=ry;exact PySem.EqMixed.eq_int_str (bh I q (by simp))
  |_=>exact absurd (show false=true from hs) uL
 |str i=>
  obtain⟨t,rfl⟩:=rx
  cases y with
  |non=>cases ry;exact PySem.EqNone.eq_str_none (bh I q (by simp))
  |bl j=>cases ry;exact PySem.EqMixed.eq_str_bool (bh I q (by simp))
  |int j=>obtain⟨t',rfl⟩:=ry;exact PySem.EqMixed.eq_str_int (bh I q (by simp))
  |str j=>obtain⟨t',rfl⟩:=ry;exact eq_str (bh I q AB)
  |_=>exact absurd (show false=true from hs) uL
 |byt i=>
  obtain⟨t,rfl⟩:=rx
  cases y with
  |byt j=>obtain⟨t',rfl⟩:=ry;exact PySem.W.eq_bytes (bh I q AC)
  |_=>exact absurd (show false=true from hs) uL
 |_=>cases y <;> exact absurd (show false=true from hs) uL
theorem KI:OpR X (compareOp .NotEq) Nl:=by
 intro pins s σ H x y v u Q I rx ry h
 obtain⟨hs,q⟩:=h
 cases x with
 |non=>
  cases rx
  cases y with
  |non=>cases ry;exact PySem.EqNone.ne_none_none (bh I q (by simp))
  |bl j=>cases ry;exact PySem.EqNone.ne_none_bool (bh I q (by simp))
  |int j=>obtain⟨t',rfl⟩:=ry;exact PySem.EqNone.ne_none_int (bh I q (by simp))
  |str j=>obtain⟨t',rfl⟩:=ry;exact PySem.EqNone.ne_none_str (bh I q (by simp))
  |_=>exact absurd (show false=true from hs) uL
 |bl i=>
  cases rx
  cases y with
  |non=>cases ry;exact PySem.EqNone.ne_bool_none (bh I q (by simp))
  |bl j=>cases ry;exact ne_bool (bh I q (congrArg not Dz))
  |str j=>obtain⟨t',rfl⟩:=ry;exact PySem.EqMixed.ne_bool_str (bh I q (by simp))
  |_=>exact absurd (show false=true from hs) uL
 |int i=>
  obtain⟨t,rfl⟩:=rx
  cases y with
  |non=>cases ry;exact PySem.EqNone.ne_int_none (bh I q (by simp))
  |int j=>obtain⟨t',rfl⟩:=ry;exact ne_int (bh I q (congrArg not AA))
  |str j=>obtain⟨t',rfl⟩:=ry;exact PySem.EqMixed.ne_int_str (bh I q (by simp))
  |_=>exact absurd (show false=true from hs) uL
 |str i=>
  obtain⟨t,rfl⟩:=rx
  cases y with
  |non=>cases ry;exact PySem.EqNone.ne_str_none (bh I q (by simp))
  |bl j=>cases ry;exact PySem.EqMixed.ne_str_bool (bh I q (by simp))
  |int j=>obtain⟨t',rfl⟩:=ry;exact PySem.EqMixed.ne_str_int (bh I q (by simp))
  |str j=>obtain⟨t',rfl⟩:=ry;exact ne_str (bh I q (congrArg not AB))
  |_=>exact absurd (show false=true from hs) uL
 |byt i=>
  obtain⟨t,rfl⟩:=rx
  cases y with
  |byt j=>obtain⟨t',rfl⟩:=ry;exact PySem.W.ne_bytes (bh I q (congrArg not AC))
  |_=>exact absurd (show false=true from hs) uL
 |_=>cases y <;> exact absurd (show false=true from hs) uL
theorem KJ:OpR X (compareOp .Lt) (Gh fun i j=>.bl (decide (i < j))):=Gi fun _ _ _ _ _ _ _ q=>lt_int q
theorem KL:OpR X (compareOp .LtE) (Gh fun i j=>.bl (decide (i≤j))):=Gi fun _ _ _ _ _ _ _ q=>le_int q
theorem KM:OpR X (compareOp .Gt) (Gh fun i j=>.bl (decide (j < i))):=Gi fun _ _ _ _ _ _ _ q=>gt_int q
theorem KN:OpR X (compareOp .GtE) (Gh fun i j=>.bl (decide (j≤i))):=Gi fun _ _ _ _ _ _ _ q=>ge_int q
theorem BV:OpR X (compareOp .Lt) (fun x y H Q=>∃i j,x=.str i∧y=.str j∧Q (.bl (decide (i.cps.toList < j.cps.toList))) H):=by
 intro pins s σ H x y v u Q I rx ry h
 obtain⟨i,j,rfl,rfl,q⟩:=h
 obtain⟨t,rfl⟩:=rx
 obtain⟨t',rfl⟩:=ry
 exact lt_str (bh I q rfl)
theorem BW:OpR X (compareOp .In) (fun x y H Q=>∃i j,x=.str i∧y=.str j∧Q (.bl (!(Builtin.Str.occurrences j i 0 j.length 1).isEmpty)) H):=by
 intro pins s σ H x y v u Q I rx ry h
 obtain⟨i,j,rfl,rfl,q⟩:=h
 obtain⟨t,rfl⟩:=rx
 obtain⟨t',rfl⟩:=ry
 exact in_str (bh I q rfl)
theorem OpR.or{f:Value→Value→Sem Value}{r r':R2}(h:OpR X f r)(h':OpR X f r'):OpR X f (fun x y H Q=>r x y H Q∨r' x y H Q):=by
 intro pins s σ H x y v u Q I rx ry q
 rcases q with q |q
 ·exact h pins s σ H x y v u Q I rx ry q
 ·exact h' pins s σ H x y v u Q I rx ry q
theorem uN(b:Expr){op:CmpOp}(h:op≠ .In:=by decide)(h2:op≠ .NotIn:=by decide):behindInMarks op b=false:=by
 have e1:(op == CmpOp.In)=false:=by cases op <;> first |rfl |exact absurd rfl h
 have e2:(op == CmpOp.NotIn)=false:=by cases op <;> first |rfl |exact absurd rfl h2
 cases b <;> simp[behindInMarks,e1,e2]
theorem Gj{op:CmpOp}{r:R2}(ho:OpR X (compareOp op) r)(ha:PE X a ta)(hb:PE X b tb)(hm:behindInMarks op b=false):PE X (.Compare a [op] [b] pos) (KC r ta tb):=by
 intro pins s σ H Q I h
 exact wpAny_Compare1 (IL ha hb I h fun v u s2 x y H2 I2 rx ry q=>ho pins s2 σ H2 x y v u Q I2 rx ry q) hm
def HU(t:TE):TT:=fun σ H Q=>t σ H fun x H'=>∃k,x=.bl k∧Q k H'
theorem Gk{op:CmpOp}{r:R2}(ho:OpR X (compareOp op) r)(ha:PE X a ta)(hb:PE X b tb)(hm:behindInMarks op b=false):PT X (.Compare a [op] [b] pos) (HU (KC r ta tb)):=by
 intro pins s σ H Q I h
 refine wpAny_isTrue_Compare1 (fA (ha pins s σ H _ I h) fun v s1 ⟨x,H1,I1,r1,q1⟩=>fA (hb pins s1 σ H1 _ I1 q1) fun u s2 ⟨y,H2,I2,r2,q2⟩=>
  fA (ho pins s2 σ H2 x y v u _ I2 r1 r2 q2) fun c s3 ⟨z,H3,I3,r3,k,e,q3⟩=>?_) hm
 subst e
 cases r3
 exact wpAny_truthy_bool ⟨H3,I3,q3⟩
def zB(r r':R2)(ta tb tc:TE):TE:=fun σ H Q=>ta σ H fun x H1=>tb σ H1 fun y H2=>r x y H2 fun z H3=>∃k,z=.bl k∧
 (if k=true then tc σ H3 fun w' H4=>r' y w' H4 Q else Q (.bl false) H3)
theorem DA{op op':CmpOp}{r r':R2}(ho:OpR X (compareOp op) r)(ho':OpR X (compareOp op') r')(ha:PE X a ta)(hb:PE X b tb)(hc:PE X c tc)
  (hm:lastMarks [op,op'] [b,c]=false:=by with_unfolding_all rfl):PE X (.Compare a [op,op'] [b,c] pos) (zB r r' ta tb tc):=by
 intro pins s σ H Q I h
 refine Compare_chain (fA (ha pins s σ H _ I h) fun v s1 ⟨x,H1,I1,r1,q1⟩=>chain_link (fA (hb pins s1 σ H1 _ I1 q1) fun u s2 ⟨y,H2,I2,r2,q2⟩=>
  fA (ho pins s2 σ H2 x y v u _ I2 r1 r2 q2) fun d s3 ⟨z,H3,I3,r3,k,e,q3⟩=>?_)) hm
 subst e
 cases r3
 refine wpAny_truthy_bool ?_
 cases k with
 |false=>exact ite_ff ⟨.bl false,H3,I3,rfl,q3⟩
 |true=>exact ite_tt (chain_last (fA (hc pins s3 σ H3 _ I3 q3) fun w' s4 ⟨z',H4,I4,r4,q4⟩=>ho' pins s4 σ H4 y z' u w' Q I4 r2 r4 q4))
theorem DB{op op':CmpOp}{r r':R2}(ho:OpR X (compareOp op) r)(ho':OpR X (compareOp op') r')(ha:PE X a ta)(hb:PE X b tb)(hc:PE X c tc)
  (hm:lastMarks [op,op'] [b,c]=false:=by with_unfolding_all rfl):PT X (.Compare a [op,op'] [b,c] pos) (HU (zB r r' ta tb tc)):=by
 intro pins s σ H Q I h
 refine isTrue_chain (fA (ha pins s σ H _ I h) fun v s1 ⟨x,H1,I1,r1,q1⟩=>test_link (fA (hb pins s1 σ H1 _ I1 q1) fun u s2 ⟨y,H2,I2,r2,q2⟩=>
  fA (ho pins s2 σ H2 x y v u _ I2 r1 r2 q2) fun d s3 ⟨z,H3,I3,r3,k,e,q3⟩=>?_)) hm
 subst e
 cases r3
 refine wpAny_truthy_bool ?_
 cases k with
 |false=>
  obtain⟨k',e',q'⟩:=q3
  cases e'
  exact ite_ff ⟨H3,I3,q'⟩
 |true=>
  refine ite_tt (test_last (fA (hc pins s3 σ H3 _ I3 q3) fun w' s4 ⟨z',H4,I4,r4,q4⟩=>fA (ho' pins s4 σ H4 y z' u w' _ I4 r2 r4 q4) fun d' s5 ⟨z2,H5,I5,r5,k2,e2,q5⟩=>?_))
  subst e2
  cases r5
  exact wpAny_truthy_bool ⟨H5,I5,q5⟩
def DC(K:Frag)(x:V)(H:Hp)(k:Bool):Prop:=
 match x with
 |.non=>k=false
 |.bl b=>k=b
 |.int i=>k=(i != 0)
 |.str y=>y.length≤sizeLine∧k=((y.length:Int) != 0)
 |.byt y=>y.size≤sizeLine∧k=((y.size:Int) != 0)
 |.ref p=>(∃xs,SqL K H p xs∧k= !xs.isEmpty)∨(∃xs,SqT K H p xs∧k= !xs.isEmpty)∨∃kvs,H p=some (.dK kvs)∧k= !kvs.isEmpty
 |_=>False
theorem zC{κ:Type}{kvs:List (κ×V)}{vs:List (κ×Value)}(r:KV kvs vs):(!vs.isEmpty)= !kvs.isEmpty:=by
 cases r <;> rfl
theorem rh(r:Vals xs its):(!its.toArray.isEmpty)= !xs.isEmpty:=by
 cases r <;> simp
theorem oU:(sizeLine:Nat) < 2 ^ 63:=by rw[sizeLine_eq];decide
theorem IW:Mn X (fun x H Q=>∃k,DC X.K x H k∧Q k H):=by
 intro pins s σ H x v Q I rx h
 obtain⟨k,e,q⟩:=h
 have hl:=oU
 have hs:sizeLine=16777216:=sizeLine_eq
 cases x with
 |non=>
  cases rx
  have e':k=false:=e
  subst e'
  exact truthy_none ⟨H,I,q⟩
 |bl b=>
  cases rx
  have e':k=b:=e
  subst e'
  exact wpAny_truthy_bool ⟨H,I,q⟩
 |int i=>
  obtain⟨t,rfl⟩:=rx
  have e':k=(i != 0):=e
  subst e'
  exact PySem.P.truthy_int ⟨H,I,q⟩
 |str y=>
  obtain⟨t,rfl⟩:=rx
  obtain⟨hy,e'⟩:y.length≤sizeLine∧k=((y.length:Int) != 0):=e
  subst e'
  exact PySem.P.truthy_str (by omega) ⟨H,I.tok _,q⟩
 |byt y=>
  obtain⟨t,rfl⟩:=rx
  obtain⟨hy,e'⟩:y.size≤sizeLine∧k=((y.size:Int) != 0):=e
  subst e'
  exact PySem.W.truthy_bytes (by omega) ⟨H,I.tok _,q⟩
 |ref p=>
  cases rx
  have e':(∃xs,SqL X.K H p xs∧k= !xs.isEmpty)∨(∃xs,SqT X.K H p xs∧k= !xs.isEmpty)∨∃kvs,H p=some (.dK kvs)∧k= !kvs.isEmpty:=e
  rcases e' with⟨xs,hx,e'⟩ |⟨xs,hx,e'⟩ |⟨kvs,hx,e'⟩
  ·subst e'
   obtain⟨its,r,pl,hz⟩:=I.list hx
   have hlen:=r.length
   exact wpAny_truthy_list pl.isList (by simp only[n4];omega) ⟨H,I.tok _,by rw[rh r];exact q⟩
  ·subst e'
   obtain⟨its,r,pl,hz⟩:=I.tuple hx
   have hlen:=r.length
   exact truthy_tuple pl (by simp only[n4];omega) ⟨H,I.tok _,by rw[rh r];exact q⟩
  ·subst e'
   obtain⟨hz,hS,vs,r,m⟩:kvs.length≤sizeLine∧(p == sysModules)=false∧∃vs,KV kvs vs∧s.heap.DictOf (qN X.prog X.w) p vs:=I.hok p _ hx
   have hlen:kvs.length=vs.length:=Paired.length r
   exact wpAny_truthy_dict hS m (by omega) ⟨H,I.tok _,by rw[zC r];exact q⟩
 |_=>exact(show False from e).elim
theorem DD(ha:PE X a ta)(he:∀whole,isTrue a X.env whole=(do let v ←whole;standAt a.pos;holding [v] (truthy v))):
  PT X a (fun σ H Q=>ta σ H fun x H'=>∃k,DC X.K x H' k∧Q k H'):=by
 intro pins s σ H Q I h
 exact isTrue_plain (fA (ha pins s σ H _ I h) fun v s1 ⟨x,H1,I1,r1,q1⟩=>IW pins s1 σ H1 x v Q I1 r1 q1) (he _)
theorem zD:OpR X (binaryOp .Add) (fun x y H Q=>∃i j,x=.str i∧y=.str j∧i.length+j.length≤sizeLine∧Q (.str (i++j)) H):=by
 intro pins s σ H x y v u Q I rx ry h
 obtain⟨i,j,rfl,rfl,hz,q⟩:=h
 obtain⟨t,rfl⟩:=rx
 obtain⟨t',rfl⟩:=ry
 exact add_str (fun t' tk=>⟨.str (i++j),H,I.tok _,⟨_,rfl⟩,q⟩) hz
theorem rj{x:V}(r:Vals [x] us):∃u,us=[u]∧RelV x u:=by
 cases r with
 |cons r1 r2=>cases r2;exact⟨_,rfl,r1⟩
theorem DE:CallR X (.builtin "abs") (fun xs H Q=>∃i,xs=[.int i]∧Q (.int (if i < 0 then -i else i)) H):=by
 intro pins s σ H xs us Q I r h
 obtain⟨i,rfl,q⟩:=h
 obtain⟨u,rfl,t,rfl⟩:=rj r
 exact call_abs_int fun u tk=>⟨.int (if i < 0 then -i else i),H,I.tok _,⟨_,rfl⟩,q⟩
theorem BX:CallR X (.type "int") (fun xs H Q=>(∃i,xs=[.int i]∧Q (.int i) H)∨∃k,xs=[.bl k]∧Q (.int (if k then 1 else 0)) H):=by
 intro pins s σ H xs us Q I r h
 rcases h with⟨i,rfl,q⟩ |⟨k,rfl,q⟩
 ·obtain⟨u,rfl,t,rfl⟩:=rj r
  exact call_int_int ⟨.int i,H,I,⟨_,rfl⟩,q⟩
 ·obtain⟨u,rfl,r1⟩:=rj r
  cases r1
  exact call_int_bool ⟨.int (if k then 1 else 0),H,I.tok _,⟨_,rfl⟩,q⟩
end
end L2
variable {r':L2.R2}
namespace L2
open PySem PySem.Spec PyProof.Rows
structure ObjM (h:Heap) (x dx C:Addr) (mA:Str→Option Value):Prop where
 obj:h.get? x=some (instObj C dx)
 ns:h.Ns1 dx mA
 ne:dx≠x
theorem BY{dx:Addr}{mA:Str→Option Value}(n:h.Ns1 dx mA):∃od,h.get? dx=some od∧∀name,lookIn name od=some (mA name):=by
 obtain⟨o,es,ep,ho,hd,hk,_,hm⟩:=n
 refine⟨o,ho,fun name=>?_⟩
 have e:=hm name
 unfold nsFind findBy at e
 rw[←Array.find?_toList]at e
 unfold lookIn
 rw[hd]
 dsimp only
 split
 ·rename_i y q
  rw[q]at e
  exact congrArg some e
 ·rename_i q
  rw[q]at e
  have a:es.toList.any (·.refKey)=false:=by
   rw[List.any_eq_false]
   intro y hy
   obtain⟨z,t,hkey⟩:=hk y (Array.mem_toList_iff.mp hy)
   simp[DictEntry.refKey,hkey]
  have a':¬es.toList.any (·.refKey)=true:=by rw[a];exact uL
  rw[if_neg a']
  exact congrArg some e
theorem ObjM.look{x dx:Addr}{mA:Str→Option Value}(I:ObjM h x dx C mA):∃od,PySem.W.InstAt h x (instObj C dx) C (some od)∧∀name,lookIn name od=some (mA name):=
 let ⟨od,ho,hl⟩:=BY I.ns
 ⟨od,⟨I.obj,rfl,rfl,ho⟩,hl⟩
section
variable {P:Program} {w:World} {H H':Hp} {h h':Heap} {a C dx:Addr} {fs fs':List (Str×V)}
theorem Gm(hok:HOk P w H h)(e:H a=some (.ins C dx fs)):∃mA,ObjM h a dx C mA∧(∀f,Iv (fs.lookup f) (mA f))∧PySem.Within mA (fs.map (·.1))∧fs.length≤1000∧H dx=some (.own a):=by
 obtain⟨d,z,ne,ob,mA,n,r,q⟩:=(show ObjOk P w H h a (.ins C dx fs)from hok a _ e)
 exact⟨mA,⟨ob,n,ne⟩,r,q,z,d⟩
end
structure Cls (K:Frag) (C:Addr):Prop where
 pg:PySem.W.plainGet K C Str.empty=true
 hd:PySem.W.hasDictIn K C=true
 po:PySem.W.plainOver K C=true
 sa:findIn K (.ref C) "__setattr__"=some (some (.builtin "object.__setattr__"))
theorem Cls.get{K:Frag}(c:Cls K C)(f:Str):PySem.W.plainGet K C f=true:=c.pg
section
variable {X:Cx} {pins:List (Addr×Obj)} {σ:St} {H:Hp} {s:Shared} {A:Around} {E:Value→Shared→Prop} {Q:Value→Shared→Prop} {c:Value} {b:Bool}
inductive TyOf (K:Frag) (H:Hp):V→Value→Prop where
 |non:TyOf K H .non (.type "NoneType")
 |bl (x:Bool):TyOf K H (.bl x) (.type "bool")
 |int (i:Int):TyOf K H (.int i) (.type "int")
 |str (x:Str):TyOf K H (.str x) (.type "str")
 |flt (x:UInt64):TyOf K H (.flt x) (.type "float")
 |lst {a:Addr} {xs:List V} (e:H a=some (.lst xs)):TyOf K H (.ref a) (.type "list")
 |frz {a:Addr} {o:Obj} {xs:List V} (e:H a=some (.frz o (.lst xs))):TyOf K H (.ref a) (.type "list")
 |tup {a:Addr} {xs:List V} (e:H a=some (.tup xs)):TyOf K H (.ref a) (.type "tuple")
 |dK {a:Addr} {kvs:List (lh×V)} (e:H a=some (.dK kvs)):TyOf K H (.ref a) (.type "dict")
 |dT {a:Addr} {kvs:List (List lh×V)} (e:H a=some (.dT kvs)):TyOf K H (.ref a) (.type "dict")
 |ins {a C dx:Addr} {fs:List (Str×V)} (e:H a=some (.ins C dx fs)) (cl:Cls K C) (ha:findIn K (.ref C) "__class__"=some (some (.builtin "object.__class__")))
   (hn:PySem.W.specialIn K (.builtin "object.__class__") "__get__"=some (some (.builtin "getset_descriptor.__get__"))) (htk:PySem.W.takesIn K (.builtin "object.__class__")=some true)
   (hm:mroIn K C (.type "object")=some true):TyOf K H (.ref a) (.ref C)
theorem l5{x:V}{u t:Value}(I:Inv X pins σ H s)(rx:RelV x u)(ty:TyOf X.K H x t)(e:kitOne X.K t c=some b)(h:∀tk,Q (.bool b) {s with toks:=tk}):
  wpAny (model X.prog X.w) A (call (.builtin "isinstance") [u,c]) Q E s:=by
 cases ty with
 |non=>cases(show u=Value.none from rx);exact kia_one PySem.W.kitx_none I.kIn True.intro e (fun z=>nomatch z) h
 |bl y=>cases(show u=Value.bool y from rx);exact kia_one PySem.W.kitx_bool I.kIn True.intro e (fun z=>nomatch z) h
 |int i=>obtain⟨t,q⟩:=(show ∃t,u=Value.int i t from rx);cases q;exact kia_one PySem.W.kitx_int I.kIn True.intro e (fun z=>nomatch z) h
 |str y=>obtain⟨t,q⟩:=(show ∃t,u=Value.str y t from rx);cases q;exact kia_one PySem.W.kitx_str I.kIn True.intro e (fun z=>nomatch z) h
 |flt y=>obtain⟨t,q⟩:=(show ∃t,u=Value.float y t from rx);cases q;exact kia_one PySem.W.kitx_float I.kIn True.intro e (fun z=>nomatch z) h
 | @lst a xs ea=>
  cases(show u=Value.ref a from rx)
  obtain⟨_,_,n,_,h1⟩:=(show ObjOk X.prog X.w H s.heap a (.lst xs)from I.hok a _ ea)
  exact kia_one kitx_list I.kIn ⟨_,h1,rfl⟩ e (fun z=>nomatch z) h
 | @frz a ob xs ea=>
  cases(show u=Value.ref a from rx)
  obtain⟨_,_,_,n,_,h1⟩:=(show ObjOk X.prog X.w H s.heap a (.frz ob (.lst xs))from I.hok a _ ea)
  exact kia_one kitx_list I.kIn ⟨_,h1,rfl⟩ e (fun z=>nomatch z) h
 | @tup a xs ea=>
  cases(show u=Value.ref a from rx)
  obtain⟨_,_,_,p⟩:=(show ObjOk X.prog X.w H s.heap a (.tup xs)from I.hok a _ ea)
  obtain⟨o,h1,h2,_⟩:=p
  exact kia_one PySem.W.kitx_tuple I.kIn ⟨o,h1,h2⟩ e (fun z=>nomatch z) h
 | @dK a kvs ea=>
  cases(show u=Value.ref a from rx)
  obtain⟨_,_,vs,_,p⟩:=(show ObjOk X.prog X.w H s.heap a (.dK kvs)from I.hok a _ ea)
  obtain⟨o,es,ep,h1,h2,_⟩:=p
  exact kia_one kitx_dict I.kIn ⟨o,h1,h2.1⟩ e (fun z=>nomatch z) h
 | @dT a kvs ea=>
  cases(show u=Value.ref a from rx)
  obtain⟨_,_,xs,_,o,es,ep,h1,h2,_⟩:=(show ObjOk X.prog X.w H s.heap a (.dT kvs)from I.hok a _ ea)
  exact kia_one kitx_dict I.kIn ⟨o,h1,h2.1⟩ e (fun z=>nomatch z) h
 | @ins a C dx fs ea cl ha hn htk hm=>
  cases(show u=Value.ref a from rx)
  obtain⟨mA,O,_⟩:=Gm I.hok ea
  obtain⟨od,J,_⟩:=O.look
  exact kia_one (PySem.W.kitx_own (cl.get _) cl.hd ha hn htk hm) I.kIn J e (fun z=>nomatch z) h
end
end L2
namespace L2
open PySem PySem.Spec PyProof.Rows
structure Room (k:Nat) (A:Around):Prop where
 hd:A.handled=none
 dp:A.depth+3*k+5 < recursionLimit
 un:A.units+16*k+200 < cLine
theorem Room.mono{A:Around}(r:Room k A)(h:j≤k):Room j A:=⟨r.hd,by have:=r.dp;omega,by have:=r.un;omega⟩
theorem Room.deeper{A:Around}(r:Room (k+1) A)(env:Env):Room k (A.deeper env):=
 ⟨r.hd,by have:=r.dp;show A.depth+1+3*k+5 < _;omega,by have:=r.un;show A.units+3+16*k+200 < _;omega⟩
theorem Room.depth{A:Around}(r:Room k A):A.depth < recursionLimit:=by have:=r.dp;omega
theorem Room.units{A:Around}(r:Room k A):A.units+64 < cLine:=by have:=r.un;omega
def Mo:TA:=fun _ H Q=>Q [] H
def KO(ta:TE)(tr:TA):TA:=fun σ H Q=>ta σ H fun x H1=>tr σ H1 fun xs H2=>Q (x::xs) H2
section
variable {X:Cx} {e:Expr} {es:List Expr} {te:TE} {t:TA} {pos:Pos}
theorem eY:PA X [] Mo:=fun _ _ _ _ H Q I h=>Calls.spliced_nil ⟨[],H,I,.nil,h⟩
theorem cw(ha:PE X e te)(hr:PA X es t)(hs:starEach (e::es) X.env=(false,eval e X.env)::starEach es X.env:=by rfl):PA X (e::es) (KO te t):=by
 intro pos pins s σ H Q I h
 rw[hs]
 show wpAny _ _ (spliced ((false,eval e X.env)::backTo pos (starEach es X.env))) _ _ s
 refine Calls.spliced_cons (fA (ha pins s σ H _ I h) fun u s1 ⟨x,H1,I1,r1,q1⟩=>?_)
 exact fA (hr pos pins s1 σ H1 _ I1 q1) fun us s2 ⟨xs,H2,I2,r2,q2⟩=>⟨x::xs,H2,I2,.cons r1 r2,q2⟩
def Mp(t:TA):TE:=fun σ H Q=>t σ H fun xs H1=>xs.length≤sizeLine∧∀p,H1 p=none→Q (.ref p) (fg H1 p (.tup xs))
def Mq(t:TA):TE:=fun σ H Q=>t σ H fun xs H1=>xs.length≤sizeLine∧∀p,H1 p=none→Q (.ref p) (fg H1 p (.lst xs))
theorem IZ{x1}(h:PA X es t):PE X (.Tuple es x1 pos) (Mp t):=by
 intro pins s σ H Q I hq
 refine wpAny_Tuple_spliced (fA (h pos pins s σ H _ I hq) fun us s1 ⟨xs,H1,I1,r,z,q⟩=>⟨by rw[←r.length];exact z,?_⟩)
 have hf:H1 s1.heap.objs.size=none:=I1.hok.fresh (gR _)
 refine⟨.ref s1.heap.objs.size,fg H1 s1.heap.objs.size (.tup xs),I1.laid (t':=s1.toks) (fun b u e=>iB _ e) (gR _) ?_,rfl,q _ hf⟩
 exact⟨z,us,r,⟨_,nY _ rfl,rfl,_,rfl⟩⟩
theorem I_(h:PA X es t):PE X (.List es pos) (Mq t):=by
 intro pins s σ H Q I hq
 refine wpAny_List_spliced (fA (h pos pins s σ H _ I hq) fun us s1 ⟨xs,H1,I1,r,z,q⟩=>⟨by rw[←r.length];exact z,?_⟩)
 have hf:H1 s1.heap.objs.size=none:=I1.hok.fresh (gR _)
 refine⟨.ref s1.heap.objs.size,fg H1 s1.heap.objs.size (.lst xs),I1.laid (t':=s1.toks) (fun b u e=>iB _ e) (gR _) ?_,rfl,q _ hf⟩
 exact⟨z,us,0,r,nY _ rfl⟩
end
abbrev Sp:=List V→Hp→VK→XK→Prop
abbrev DF:=List Env→Hp→Shared→XK→Value→Shared→Prop
structure Env0 (P:Program) (w:World) (K:Frag) (mg:Str→Option Value) (base:Heap) (A:Around) (outer:List Env) (s:Shared) (H:Hp):Prop where
 frames:A.frames=some outer
 mod:Mod K mg base
 bs:∀b o,base.get? b=some o→s.heap.get? b=some o∧H b=none
 bsz:base.objs.size≤s.heap.objs.size
 funs:s.heap.FunFrames base outer
 frf:∀b∈qy outer,H b=none
 hok:HOk P w H s.heap
 bare:AllBare s.gens
 tab:∀b q,qx K b=some q→H b=some (.tbl q)
def CE(outer:List Env)(P:Program)(w:World)(H:Hp)(s:Shared)(Q:VK)(u:Value)(s':Shared):Prop:=
 ∃v H',s'.os=s.os∧AllBare s'.gens∧Un (qy outer) [] H H' s.heap s'.heap∧HOk P w H' s'.heap∧RelV v u∧Q v H'
def CR(CX:DF)(outer:List Env)(P:Program)(w:World)(H:Hp)(s:Shared)(Q:VK)(E:XK)(r:Result)(s':Shared):Prop:=
 match r with
 |.ok (.ret u)=>CE outer P w H s Q u s'
 |.ok _=>False
 |.error e=>CX outer H s E e s'
structure FnOk (P:Program) (w:World) (K:Frag) (mg:Str→Option Value) (base:Heap) (CX:DF) (k:Nat) (f:Addr) (fd:FuncData) (ps:List Str) (sp:Sp):Prop where
 len:∀vs H Q E,sp vs H Q E→vs.length=ps.length
 run:∀(A:Around) (outer:List Env) (s:Shared) (H:Hp) (args:Args) (us:List Value) (vs:List V) (Q:VK) (E:XK),Room k A→Env0 P w K mg base A outer s H→BindsTo s fd args (ps.zip us)→Vals vs us→sp vs H Q E→
  codeAny (model P w) A (.call (.ref f) args) (CR CX outer P w H s Q E) s
section
variable {X:Cx} {pins:List (Addr×Obj)} {σ:St} {H:Hp} {s s':Shared}
theorem Inv.env0(I:Inv X pins σ H s):Env0 X.prog X.w X.K X.mg X.base X.A X.stack s H:=
 ⟨I.ok.frames,I.ok.mod,I.bs,jS I.ok.bsz I.sz,I.stack,I.stkFree,I.hok,I.bare,I.tab⟩
theorem Inv.after{Q:VK}{u:Value}(I:Inv X pins σ H s)(h:CE X.stack X.prog X.w H s Q u s'):EP X pins σ Q u s':=by
 obtain⟨v,H',os,bare,un,hok,r,q⟩:=h
 obtain⟨hh,g,d,t,os'⟩:=s'
 obtain rfl:os'=s.os:=os
 exact⟨v,H',I.call (h':=hh) (g':=g) (d':=d) (t':=t) (ch:=[]) un hok bare (fun b z=>absurd z (by simp)),r,q⟩
end
def DG(sp:Sp)(dvs:List V)(E:XK)(t:TA):TE:=fun σ H Q=>t σ H fun vs H1=>sp (vs++dvs) H1 Q E
def Binds(K:Frag)(fd:FuncData)(ps:List Str)(ds:List Value):Prop:=
 ∀(s:Shared) (us:List Value),K.In s.heap→(us++ds).length=ps.length→BindsTo s fd ⟨us,[]⟩ (ps.zip (us++ds))
theorem Binds.all{K:Frag}(h:∀us:List Value,us.length=ps.length→bindArgs fd ⟨us,[]⟩=pure (ps.zip us)):Binds K fd ps []:=fun s us _ hl=>by
 rw[oS]at hl ⊢
 exact .of_eq (h us hl)
def zE(CX:DF)(X:Cx)(E:XK):Prop:=∀(pins:List (Addr×Obj)) (σ:St) (H:Hp) (s:Shared) (e:Value) (s':Shared),Inv X pins σ H s→CX X.stack H s E e s'→X.xe e s'
section
variable {X:Cx} {CX:DF} {k:Nat} {f C:Addr} {fd:FuncData} {ps:List Str} {sp:Sp} {dvs:List V} {ds:List Value} {E:XK} {x m:Str} {p pos apos:Pos} {e o:Expr} {es:List Expr} {ta:TE} {t:TA}
theorem Ja{σ:St}{H:Hp}{s:Shared}{Q:VK}{vs:List V}(F:FnOk X.prog X.w X.K X.mg X.base CX k f fd ps sp)(hr:Room k X.A)(hb:Binds X.K fd ps ds)(hd:Vals dvs ds)(hx:zE CX X E)
  (I:Inv X pins σ H s) (r:Vals vs us) (h:sp (vs++dvs) H Q E):wpAny (model X.prog X.w) X.A (call (.ref f) us) (EP X pins σ Q) X.xe s:=by
 have r2:Vals (vs++dvs) (us++ds):=r.append hd
 have hl:(us++ds).length=ps.length:=by rw[←r2.length];exact F.len _ _ _ _ h
 refine wpAny_call (codeAny_mono (F.run X.A X.stack s H ⟨us,[]⟩ (us++ds) (vs++dvs) Q E hr I.env0 (hb s us I.kIn hl) r2 h) fun r s' hq=>?_)
 cases r with
 |error e=>exact hx pins σ H s e s' I hq
 |ok fl=>
  cases fl with
  |ret u=>exact I.after hq
  |next=>exact False.elim hq
  |brk=>exact False.elim hq
  |cont=>exact False.elim hq
theorem Gn(F:FnOk X.prog X.w X.K X.mg X.base CX k f fd ps sp)(hr:Room k X.A)(hg:Gl X x)(hm:X.mg x=some (.ref f))(hk:keepIn X.K (.ref f)=true)(hb:Binds X.K fd ps ds)(hd:Vals dvs ds)(hx:zE CX X E)
  (ha:PA X (e::es) t) (hdb:(x == ("__debug__":Str))=false:=by decide) (he:starEach (e::es) X.env=(false,eval e X.env)::starEach es X.env:=by rfl) (hpl:(backTo pos (starEach es X.env)).any (·.1)=false:=by rfl):
  PE X (.Call (.Name x p) (e::es) [] pos) (DG sp dvs E t):=by
 intro pins s σ H Q I h
 refine zz6 (lZ I hg hm ?_ hdb)
 refine callWith_K (h₀:=X.base) I.ok.mod.kin hk (fA (ha pos pins s σ H _ I h) fun us s1 ⟨vs,H1,I1,r,q⟩=>⟨I1.kIn,?_⟩) he hpl
 exact Ja F hr hb hd hx I1 r q
end
structure FnScope (N P:List Str) (sc:Scope):Prop where
 kind:sc.kind=.function
 co:sc.isCoroutine=false
 gen:sc.isGenerator=false
 nd:N.Nodup
 pre:N.take P.length=P
 par:∀x∈P,sc.names.lookup x=some .local∨sc.names.lookup x=some .cell
 nofree:∀y∈sc.names,y.2≠ .free
theorem tO{kindOf:Str→Option NameKind}:∀{binds:List (Str×Value)} {m:Str→Option Value},(∀v,(x,v)∉binds)→bindL kindOf binds m x=m x
 |[],_,_=>rfl
 |(n,v)::r,m,h=>by
  unfold bindL
  rw[tO fun w hw=>h w (gN _ hw)]
  split
  ·have:x≠n:=by rintro rfl;exact h v g_
   simp[this]
  ·rfl
theorem tP{kindOf:Str→Option NameKind}:∀{binds:List (Str×Value)} {m:Str→Option Value},(∀v,(x,v)∉binds)→bindC kindOf binds m x=m x
 |[],_,_=>rfl
 |(n,v)::r,m,h=>by
  unfold bindC
  rw[tP fun w hw=>h w (gN _ hw)]
  split
  ·rfl
  ·have:x≠n:=by rintro rfl;exact h v g_
   simp[this]
theorem tQ{kindOf:Str→Option NameKind}{v:Value}:∀{P:List Str} {vs:List Value} {i:Nat} {m:Str→Option Value},P.Nodup→P[i]? =some x→vs[i]? =some v→kindOf x=some .local→
  bindL kindOf (P.zip vs) m x=some v
 |[],_,_,_,_,h,_,_=>by simp at h
 |_::_,[],_,_,_,_,h,_=>by simp at h
 |p::P,w::vs,0,m,nd,h1,h2,hk=>by
  simp at h1 h2;subst h1;subst h2
  show bindL kindOf ((p,w)::P.zip vs) m p=_
  unfold bindL
  rw[tO fun v hv=>(List.nodup_cons.mp nd).1 (List.of_mem_zip hv).1,if_pos hk]
  simp
 |p::P,w::vs,i+1,m,nd,h1,h2,hk=>by
  show bindL kindOf ((p,w)::P.zip vs) m x=_
  unfold bindL
  exact tQ (i:=i) (List.nodup_cons.mp nd).2 (by simpa using h1) (by simpa using h2) hk
theorem tR{kindOf:Str→Option NameKind}{v:Value}:∀{P:List Str} {vs:List Value} {i:Nat} {m:Str→Option Value},P.Nodup→P[i]? =some x→vs[i]? =some v→kindOf x≠some .local→
  bindC kindOf (P.zip vs) m x=some v
 |[],_,_,_,_,h,_,_=>by simp at h
 |_::_,[],_,_,_,_,h,_=>by simp at h
 |p::P,w::vs,0,m,nd,h1,h2,hk=>by
  simp at h1 h2;subst h1;subst h2
  show bindC kindOf ((p,w)::P.zip vs) m p=_
  unfold bindC
  rw[tP fun v hv=>(List.nodup_cons.mp nd).1 (List.of_mem_zip hv).1,if_neg hk]
  simp
 |p::P,w::vs,i+1,m,nd,h1,h2,hk=>by
  show bindC kindOf ((p,w)::P.zip vs) m x=_
  unfold bindC
  exact tR (i:=i) (List.nodup_cons.mp nd).2 (by simpa using h1) (by simpa using h2) hk
def iL(N:List Str)(vs:List V):St:=vs.map some++List.replicate (N.length - vs.length) none
def kl(CX:DF)(P:Program)(w:World)(K:Frag)(mg:Str→Option Value)(base:Heap)(N:List Str)(qual:Str)(scope:Scope)(f:Addr)(cd:Value)(A:Around)(outer:List Env)(s:Shared)(H:Hp)(E:XK):Cx where
 prog:=P
 w:=w
 K:=K
 mg:=mg
 base:=base
 A:=A.deeper (envOfC qual scope s.heap.objs.size f cd)
 N:=N
 s₀:=s
 H₀:=H
 env:=envOfC qual scope s.heap.objs.size f cd
 outer:=outer
 stack:=envOfC qual scope s.heap.objs.size f cd::outer
 ex:=[]
 calm:=true
 fn:=fun _=>true
 pn:=[]
 xe:=fun e s'=>wpAny (model P w) (A.deeper (envOfC qual scope s.heap.objs.size f cd)) (leaving (envOfC qual scope s.heap.objs.size f cd) e) (fun _ s''=>CX outer H s E e s'') (fun e' s''=>CX outer H s E e' s'') s'
theorem wv{sc:Scope}{n:Nat}(h:sc.names.lookup x=some .cell):∃c,(cellsFrom n sc.names []).lookup x=some c:=by
 have q:=cellsFrom_some sc.names n [] (.inl h)
 exact Option.isSome_iff_exists.mp q
theorem tS{CX:DF}{w:World}{K:Frag}{mg:Str→Option Value}{base:Heap}{N:List Str}{f:Addr}{cd:Value}{A:Around}{outer:List Env}{s s1:Shared}{H:Hp}{E:XK}{vs:List V}
  (S:FnScope N ps scope) (hd:A.handled=none) (e0:Env0 P w K mg base A outer s H) (hl:vs.length=ps.length) (r:Vals vs us)
  (x:InCallC s s.heap.objs.size (bindL (envOfC qual scope s.heap.objs.size f cd).kindOf (ps.zip us) fun _=>none) (cellsFrom (s.heap.objs.size+1) scope.names []) (bindC (envOfC qual scope s.heap.objs.size f cd).kindOf (ps.zip us) fun _=>none) s1):
  Inv (kl CX P w K mg base N qual scope f cd A outer s H E) [] (iL N vs) H s1:=by
 have hpl:ps.length≤N.length:=by have:=congrArg List.length S.pre;rw[List.length_take]at this;omega
 obtain⟨h1,tk,rfl,hk⟩:=x.done
 have noA:∀b:Addr,b∉(kl CX P w K mg base N qual scope f cd A outer s H E).ex:=fun b z=>absurd (show b∈([]:List Addr)from z) (by simp)
 refine⟨⟨e0.mod,S.kind,rfl,rfl,gR _,fun y z c h1 h2=>?_,fun y hy=>?_,fun y c _ h=>?_,fun _=>hd,Around.frames_deeper e0.frames,.inr ⟨rfl,rfl⟩,fun b z=>absurd z (noA b),e0.bs,e0.bsz,fun b _ _=>noA b,fun b z=>absurd z (noA b),e0.funs,e0.frf,e0.tab⟩,
  rfl,e0.bare,Un.kept hk,⟨_,x.toInCall.ns,fun i y v h1 h2 h3=>?_⟩,fun y c h=>⟨_,x.cell y c h⟩,e0.hok.fresh (gR _),fun y c h=>?_,fun p hp=>absurd (show p∈([]:List (Addr×Obj))from hp) (by simp),e0.hok.kept hk,?_⟩
 ·exact name_of_addr x.apart (PySem.mem_of_lookup h1) (PySem.mem_of_lookup h2)
 ·have hy:scope.names.lookup y=some .cell∨scope.names.lookup y=some .free:=hy
  rcases hy with hy |hy
  ·exact wv hy
  ·exact absurd rfl (S.nofree _ (PySem.mem_of_lookup hy))
 ·exact mY (x.above y c (PySem.mem_of_lookup h))
 ·have hi:i < vs.length:=by
   unfold iL at h2
   by_cases hi:i < vs.length
   ·exact hi
   ·rw[FZ (by simpa using hi)]at h2
    rw[List.getElem?_replicate]at h2
    split at h2 <;> cases h2
  have ha:vs[i]? =some v:=by
   unfold iL at h2
   rw[List.getElem?_append_left (by simpa using hi),List.getElem?_map]at h2
   cases e:vs[i]? with
   |none=>rw[e]at h2;cases h2
   |some a=>rw[e]at h2;cases h2;rfl
  obtain⟨u,hu,rv⟩:=r.get ha
  have hp:ps[i]? =some y:=by
   rw[←S.pre,List.getElem?_take_of_lt (by omega)];exact h1
  have ndP:ps.Nodup:=by rw[←S.pre];exact S.nd.sublist (List.take_sublist _ _)
  refine⟨u,rv,?_⟩
  rcases S.par y (List.mem_of_getElem? hp)with k |k
  ·exact .inl ⟨k,tQ ndP hp hu k⟩
  ·obtain⟨c,e⟩:=wv (n:=s.heap.objs.size+1) k
   refine .inr ⟨.inl k,c,e,?_⟩
   have q:=x.cell y c e
   rw[tR ndP hp hu (by show scope.names.lookup y≠_;rw[k];decide)]at q
   exact q
 ·exact e0.hok.fresh (mY (x.above y c (PySem.mem_of_lookup h)))
 ·unfold iL
  show _=N.length
  rw[iK,c_,List.length_replicate]
  omega
theorem DH{CX:DF}{w:World}{K:Frag}{mg:Str→Option Value}{base:Heap}{f:Addr}{name:Str}{dV kV ct:Value}{od:Option Addr}
   {N:List Str} {sp:Sp} (lk:K.lookup f=some ⟨oc,od,.func (fnOf name qual params body scope dV kV doc pm an cdv ct),osl⟩) (hcd:codeIn K cdv qual=true) (S:FnScope N ps scope)
  (len:∀vs H Q E,sp vs H Q E→vs.length=ps.length)
  (hbody:∀(A:Around) (outer:List Env) (s:Shared) (H:Hp) (vs:List V) (Q:VK) (E:XK),Room k (A.deeper (envOfC qual scope s.heap.objs.size f cdv))→sp vs H Q E→
   ∃t,PSs (kl CX P w K mg base N qual scope f cdv A outer s H E) body t∧t {nx:=fun _ H'=>Q .non H',rt:=Q} (iL N vs) H):
  FnOk P w K mg base CX (k+1) f (fnOf name qual params body scope dV kV doc pm an cdv ct) ps sp:=by
 refine⟨len,fun A outer s H args us vs Q E hr e0 hb r hsp=>?_⟩
 have hl:=len _ _ _ _ hsp
 have KX:K.In s.heap:=e0.mod.kin.keeps fun b o e=>(e0.bs b o e).1
 have lim:s.heap.NoLimit:=e0.mod.nolimit.keeps fun b o e=>(e0.bs b o e).1
 have hkind:∀y∈ps.zip us,scope.names.lookup y.1=some .local∨(scope.names.lookup y.1=some .cell∧((cellsFrom (s.heap.objs.size+1) scope.names []).lookup y.1).isSome=true):=fun⟨n,v⟩ hy=>by
  rcases S.par n (List.of_mem_zip hy).1 with q |q
  ·exact .inl q
  ·exact .inr ⟨q,cellsFrom_some _ _ _ (.inl q)⟩
 refine codeAny_call_function hr.depth (KX _ _ lk) rfl S.co S.gen rfl (PySem.W.codeRec_of KX hcd) (hb _ _ _ _ ?_)
 refine wpAny_newFunctionEnv_cells S.kind hkind fun env he s1 x=>?_
 subst he
 refine⟨lim.keeps x.toInCall.keep,codeAny_func ?_⟩
 obtain⟨t,ht,hq⟩:=hbody A outer s H vs Q E (hr.deeper _) hsp
 have I:Inv (kl CX P w K mg base N qual scope f cdv A outer s H E) [] (iL N vs) H s1:=tS S hr.hd e0 hl r x
 refine zz2 (ht [] s1 (iL N vs) H _ I hq) (fun fl s' hs=>?_) fun e s' hs=>hs
 have fin:∀{σ':St} {H':Hp} {v:V} {u:Value},Inv (kl CX P w K mg base N qual scope f cdv A outer s H E) [] σ' H' s'→RelV v u→Q v H'→CE outer P w H s Q u s':=
  fun {σ' H' v u} J rv q=>⟨v,H',J.os,J.bare,J.base,J.hok,rv,q⟩
 cases fl with
 |ret u=>
  obtain⟨v,σ',H',J,rv,q⟩:=hs
  exact fin J rv q
 |next=>
  obtain⟨σ',H',J,q⟩:=hs
  exact fin (v:=V.non) (u:=Value.none) J rfl q
 |brk=>
  obtain⟨_,_,_,q⟩:=hs
  exact False.elim q
 |cont=>
  obtain⟨_,_,_,q⟩:=hs
  exact False.elim q
end L2
variable {sp:L2.Sp}
namespace L2
open PySem PySem.Spec PyProof.Rows
section
variable {X:Cx} {x:Str} {p pos:Pos} {e:Expr} {es:List Expr} {t:TA} {id T:String} {r:List V→Hp→VK→Prop}
def Mr(r:List V→Hp→VK→Prop)(t:TA):TE:=fun σ H Q=>t σ H fun vs H1=>r vs H1 Q
theorem jT(hc:CallR X (.builtin id) r) (hg:Gl X x) (hm:X.mg x=none) (hv:bootBuiltins x=some (.builtin id)) (ha:PA X (e::es) t) (hn:x≠"__name__":=by decide) (hdb:(x == ("__debug__":Str))=false:=by decide)
  (he:starEach (e::es) X.env=(false,eval e X.env)::starEach es X.env:=by rfl) (hpl:(backTo pos (starEach es X.env)).any (·.1)=false:=by rfl):PE X (.Call (.Name x p) (e::es) [] pos) (Mr r t):=by
 intro pins s σ H Q I h
 refine zz6 (mZ I hg hm hv ?_ hn hdb)
 exact PyProof.Rows.callWith_builtin1 (fA (ha pos pins s σ H _ I h) fun us s1 ⟨vs,H1,I1,r1,q1⟩=>hc pins s1 σ H1 vs us Q I1 r1 q1) he hpl
theorem l6(hc:CallR X (.type T) r) (hg:Gl X x) (hm:X.mg x=none) (hv:bootBuiltins x=some (.type T)) (ha:PA X (e::es) t) (hn:x≠"__name__":=by decide) (hdb:(x == ("__debug__":Str))=false:=by decide)
  (he:starEach (e::es) X.env=(false,eval e X.env)::starEach es X.env:=by rfl) (hpl:(backTo pos (starEach es X.env)).any (·.1)=false:=by rfl):PE X (.Call (.Name x p) (e::es) [] pos) (Mr r t):=by
 intro pins s σ H Q I h
 refine zz6 (mZ I hg hm hv ?_ hn hdb)
 exact PyProof.Rows.callWith_type1 (fA (ha pos pins s σ H _ I h) fun us s1 ⟨vs,H1,I1,r1,q1⟩=>hc pins s1 σ H1 vs us Q I1 r1 q1) he hpl
end
end L2
namespace HT
open PySem PyProof.Rows
section
open PySem.SeqAt
open PySem.AutoSeq1 (wpAny_loadPart')
open PySem.MeetsSeq PySem.MeetsSeq2 PySem.MeetsSeq3
end
section
variable {prog:Program} {w:World} {A:Around} {E:Value→Shared→Prop} {s:Shared}
def qz(n d:Nat):Option Int→Nat
 |none=>d
 |some v=>if v < 0 then (v+(n:Int)).toNat else min v.toNat n
theorem DI(n d:Nat):qz n d none=d:=rfl
theorem qO(n d k:Nat):qz n d (some (k:Int))=min k n:=by
 show(if (k:Int) < 0 then ((k:Int)+(n:Int)).toNat else min (k:Int).toNat n)=min k n
 rw[if_neg (by omega),Int.toNat_natCast]
end
end HT
namespace L2
open PySem PySem.Spec PyProof.Rows
abbrev TO:=St→Hp→(Option Int→Hp→Prop)→Prop
def PO(X:Cx)(e:Option Expr)(t:TO):Prop:=
 ∀(pins:List (Addr×Obj)) (s:Shared) (σ:St) (H:Hp) (Q:Option Int→Hp→Prop),Inv X pins σ H s→t σ H Q→
  wpAny (model X.prog X.w) X.A (evalPart e X.env) (fun u s'=>∃o H',Inv X pins σ H' s'∧IsPart u o∧Q o H') X.xe s
def Go:TO:=fun _ H Q=>Q none H
def KP(t:TE):TO:=fun σ H Q=>t σ H fun x H1=>∃i,x=.int i∧Q (some i) H1
section
variable {X:Cx} {e:Expr} {te:TE} {lo hi:Option Expr} {tl th:TO} {pos p2:Pos}
theorem Gp:PO X none Go:=by
 intro pins s σ H Q I h
 rw[evalPart_none]
 exact zz1 ⟨none,H,I,.none,h⟩
theorem Gq(h:PE X e te):PO X (some e) (KP te):=by
 intro pins s σ H Q I hw
 rw[evalPart_some]
 refine fA (h pins s σ H _ I hw) fun u s1 ⟨x,H1,I1,r1,q1⟩=>?_
 obtain⟨i,rfl,q⟩:=q1
 obtain⟨t,rfl⟩:=r1
 exact⟨some i,H1,I1,.int i t,q⟩
def SlR(X:Cx)(r:V→Option Int→Option Int→Hp→VK→Prop):Prop:=
 ∀(pins:List (Addr×Obj)) (s:Shared) (σ:St) (H:Hp) (x:V) (v vl vu:Value) (lo hi:Option Int) (sl:Addr) (Q:VK),Inv X pins σ H s→RelV x v→s.heap.IsSliceOf sl vl vu .none→IsPart vl lo→IsPart vu hi→r x lo hi H Q→
  ∃T id,typeLookup (.type T) "__getitem__"=pure (some (.builtin id))∧s.TypeIs v T∧wpAny (model X.prog X.w) X.A (getItem v (.ref sl)) (EP X pins σ Q) X.xe s
theorem SlR.or{r r':V→Option Int→Option Int→Hp→VK→Prop}(h:SlR X r)(h':SlR X r'):SlR X (fun x lo hi H Q=>r x lo hi H Q∨r' x lo hi H Q):=by
 intro pins s σ H x v vl vu lo hi sl Q I rx hs pl pu q
 rcases q with q |q
 ·exact h pins s σ H x v vl vu lo hi sl Q I rx hs pl pu q
 ·exact h' pins s σ H x v vl vu lo hi sl Q I rx hs pl pu q
def ND(r:V→Option Int→Option Int→Hp→VK→Prop)(te:TE)(tl th:TO):TE:=fun σ H Q=>te σ H fun x H1=>tl σ H1 fun l H2=>th σ H2 fun u H3=>r x l u H3 Q
theorem DJ{r:V→Option Int→Option Int→Hp→VK→Prop}(hr:SlR X r)(he:PE X e te)(hl:PO X lo tl)(hu:PO X hi th):PE X (.Subscript e (.Slice lo hi none p2) pos) (ND r te tl th):=by
 intro pins s σ H Q I h
 refine Subscript_ (fA (he pins s σ H _ I h) fun v s1 ⟨x,H1,I1,r1,q1⟩=>?_)
 refine wpAny_Slice (fA (hl pins s1 σ H1 _ I1 q1) fun vl s2 ⟨l,H2,I2,pl,q2⟩=>fA (hu pins s2 σ H2 _ I2 q2) fun vu s3 ⟨u,H3,I3,pu,q3⟩=>?_)
 rw[evalPart_none]
 refine zz1 ?_
 have I4:Inv X pins σ H3 {s3 with heap:=s3.heap.push {cls:=.type "slice",data:=.fields #[vl,vu,.none]}}:=I3.kept (t':=s3.toks) fun b ob q=>iB _ q
 obtain⟨T,id,hT,ht,hg⟩:=hr pins {s3 with heap:=s3.heap.push {cls:=.type "slice",data:=.fields #[vl,vu,.none]}} σ H3 x v vl vu l u s3.heap.objs.size Q I4 r1 (Heap.IsSliceOf.new ..) pl pu q3
 show wpAny (model X.prog X.w) X.A (subscriptTail e (.Slice lo hi none p2) v (.ref s3.heap.objs.size)) (EP X pins σ Q) X.xe {s3 with heap:=s3.heap.push {cls:=.type "slice",data:=.fields #[vl,vu,.none]}}
 exact tail_any (ops:=[.ref s3.heap.objs.size,v]) ht hT hg (by with_unfolding_all rfl)
def BZ(xs:List V)(lo hi:Option Int):List V:=(xs.drop (HT.qz xs.length 0 lo)).take (HT.qz xs.length xs.length hi - HT.qz xs.length 0 lo)
theorem ww(xs:List V)(lo hi:Option Int):(BZ xs lo hi).length≤xs.length:=by
 unfold BZ
 rw[List.length_take,List.length_drop]
 omega
end
end L2
namespace L2
open PySem PySem.Spec PyProof.Rows
def Km(n:Nat)(i:Int):Option Nat:=if 0≤i then (if i < n then some i.toNat else none)else if -(n:Int)≤i then some (i+n).toNat else none
def atI{α:Type}(xs:List α)(i:Int):Option α:=(Km xs.length i).bind fun j=>xs[j]?
theorem Gr{n:Nat}{i:Int}(h:Km n i=some j):seqIndex? i n=some j∧j < n∧ -(n:Int)≤i∧i < n:=by
 unfold Km at h
 by_cases h0:0≤i
 ·rw[if_pos h0]at h
  by_cases h1:i < n
  ·rw[if_pos h1]at h
   have e:i.toNat=j:=Option.some.inj h
   exact⟨by rw[seqIndex_of h0 h1,e],by omega,by omega,h1⟩
  ·rw[if_neg h1]at h;cases h
 ·rw[if_neg h0]at h
  by_cases h1: -(n:Int)≤i
  ·rw[if_pos h1]at h
   have e:(i+n).toNat=j:=Option.some.inj h
   exact⟨by rw[seqIndex_neg (by omega) h1,e],by omega,h1,by omega⟩
  ·rw[if_neg h1]at h;cases h
theorem uO{xs:List α}{i:Int}{v:α}(h:atI xs i=some v):∃j,seqIndex? i xs.length=some j∧xs[j]? =some v∧j < xs.length∧ -(xs.length:Int)≤i∧i < xs.length:=by
 unfold atI at h
 cases e:Km xs.length i with
 |none=>rw[e]at h;cases h
 |some j=>
  rw[e]at h
  obtain⟨h1,h2,h3,h4⟩:=Gr e
  exact⟨j,h1,h,h2,h3,h4⟩
def AD(b:Expr):Prop:=∀o i,subscripted b false o i=operate [o,i] (getItem o i)
def IxR(X:Cx)(r:R2):Prop:=
 ∀(value slice:Expr) (pins:List (Addr×Obj)) (s:Shared) (σ:St) (H:Hp) (x y:V) (v u:Value) (Q:VK),Inv X pins σ H s→RelV x v→RelV y u→r x y H Q→
  subscripted slice false v u=operate [v,u] (getItem v u)→wpAny (model X.prog X.w) X.A (subscriptTail value slice v u) (EP X pins σ Q) X.xe s
def Kn(X:Cx)(id:String)(r:V→List V→Hp→VK→Prop):Prop:=
 ∀(pins:List (Addr×Obj)) (s:Shared) (σ:St) (H:Hp) (x:V) (xs:List V) (v:Value) (us:List Value) (Q:VK),Inv X pins σ H s→RelV x v→Vals xs us→r x xs H Q→
  wpAny (model X.prog X.w) X.A (call (.builtin id) (v::us)) (EP X pins σ Q) X.xe s
section
variable {X:Cx} {a b:Expr} {ta tb:TE} {pos:Pos}
theorem IxR.or{r:R2}(h:IxR X r)(h':IxR X r'):IxR X (fun x y H Q=>r x y H Q∨r' x y H Q):=by
 intro value slice pins s σ H x y v u Q I rx ry q hs
 rcases q with q |q
 ·exact h value slice pins s σ H x y v u Q I rx ry q hs
 ·exact h' value slice pins s σ H x y v u Q I rx ry q hs
theorem KQ{r:R2}(hr:IxR X r)(ha:PE X a ta)(hb:PE X b tb)(hs:AD b):PE X (.Subscript a b pos) (KC r ta tb):=by
 intro pins s σ H Q I h
 exact Subscript_ (IL ha hb I h fun v u s2 x y H2 I2 rx ry q=>hr a b pins s2 σ H2 x y v u Q I2 rx ry q (hs _ _))
def KR(K:Frag):R2:=fun x y H Q=>∃p xs i v,x=.ref p∧y=.int i∧SqL K H p xs∧atI xs i=some v∧Q v H
def KS(K:Frag):R2:=fun x y H Q=>∃p xs i v,x=.ref p∧y=.int i∧SqT K H p xs∧atI xs i=some v∧Q v H
def KU:R2:=fun x y H Q=>∃z i c,x=.str z∧y=.int i∧z.length≤sizeLine∧atI z.cps.toList i=some c∧Q (.str ⟨#[c]⟩) H
theorem ix_list:IxR X (KR X.K):=by
 intro value slice pins s σ H x y v u Q I rx ry h hs
 obtain⟨p,xs,i,z,rfl,rfl,hq,he,q⟩:=h
 cases rx
 obtain⟨t,rfl⟩:=ry
 obtain⟨its,r,pl,hz⟩:=I.list hq
 obtain⟨j,h1,h2,h3,h4,h5⟩:=uO he
 obtain⟨w,ew,rw'⟩:=r.get h2
 have hl:=r.length
 have hn:=oU
 have fin:EP X pins σ Q w s:=⟨z,H,I,rw',q⟩
 by_cases h0:0≤i
 ·have hj:i.toNat=j:=by
   rw[seqIndex_of h0 h5]at h1
   exact Option.some.inj h1
  exact item_listR pl.isList h0 (by omega) (by rw[hj];simpa using ew) fin hs
 ·have hj:(i+(its.toArray.size:Int)).toNat=j:=by
   rw[seqIndex_neg (by omega) h4]at h1
   rw[n4,←hl]
   exact Option.some.inj h1
  exact subscriptTail_builtinR (x:=w) pl.isList.typeIs slot_list_getitem.lookup
   (wpAny_getItem_list_neg (Q:=fun r s'=>r=w∧EP X pins σ Q r s') pl.isList (by omega) (by rw[n4] <;> omega) (by omega) (by rw[hj];simpa using ew) ⟨rfl,fin⟩) hs
theorem ix_tup:IxR X (KS X.K):=by
 intro value slice pins s σ H x y v u Q I rx ry h hs
 obtain⟨p,xs,i,z,rfl,rfl,hq,he,q⟩:=h
 cases rx
 obtain⟨t,rfl⟩:=ry
 obtain⟨its,r,pl,hz⟩:=I.tuple hq
 obtain⟨j,h1,h2,h3,h4,h5⟩:=uO he
 obtain⟨w,ew,rw'⟩:=r.get h2
 have hl:=r.length
 have hn:=oU
 have fin:EP X pins σ Q w s:=⟨z,H,I,rw',q⟩
 exact subscriptTail_builtinR (x:=w) pl.typeIs slot_tuple_getitem.lookup
  (getItem_tuple (j:=j) (Q:=fun r s'=>r=w∧EP X pins σ Q r s') pl (by omega) (by omega) (by rw[n4,←hl];exact h1) (by simpa using ew) ⟨rfl,fin⟩) hs
theorem Jb:IxR X KU:=by
 intro value slice pins s σ H x y v u Q I rx ry h hs
 obtain⟨z,i,c,rfl,rfl,hz,he,q⟩:=h
 obtain⟨t,rfl⟩:=rx
 obtain⟨t',rfl⟩:=ry
 obtain⟨j,h1,h2,h3,h4,h5⟩:=uO he
 have hl:z.cps.toList.length=z.length:=by simp[Str.length]
 rw[hl]at h1 h4 h5
 have hn:=oU
 exact tail_any (typeIs_str s z t) slot_str_getitem.lookup (getItem_str (c:=c) (by
  have e1:decide (i < -(2 ^ 63:Int))=false:=zz3 (by omega)
  have e2:decide (i≥2 ^ 63)=false:=zz3 (by omega)
  rw[e1,e2,Bool.or_false]) (by rw[h1];simpa using h2) ⟨.str ⟨#[c]⟩,H,I.tok _,⟨_,rfl⟩,q⟩) hs
def Nm(K:Frag):R2:=fun x y H Q=>KR K x y H Q∨KS K x y H Q∨KU x y H Q
theorem Jc:IxR X (Nm X.K):=ix_list.or (ix_tup.or Jb)
theorem uP(lo hi:Option Int)(n:Nat):(sliceBounds lo hi none n).1=((HT.qz n 0 lo:Nat):Int)∧(sliceBounds lo hi none n).2.1=((HT.qz n n hi:Nat):Int)∧(sliceBounds lo hi none n).2.2=1:=by
 refine⟨?_,?_,rfl⟩
 ·cases lo with
  |none=>simp[sliceBounds,HT.qz]
  |some i=>
   simp only[sliceBounds,HT.qz,Option.getD_none,show(1:Int) > 0 by decide,if_true]
   by_cases h:i < 0
   ·simp only[h,if_true] <;> omega
   ·simp only[h,if_false] <;> omega
 ·cases hi with
  |none=>simp[sliceBounds,HT.qz]
  |some i=>
   simp only[sliceBounds,HT.qz,Option.getD_none,show(1:Int) > 0 by decide,if_true]
   by_cases h:i < 0
   ·simp only[h,if_true] <;> omega
   ·simp only[h,if_false] <;> omega
theorem tz(its:List Value)(lo hi:Option Int):slicePick its.toArray lo hi none=((its.drop (HT.qz its.length 0 lo)).take (HT.qz its.length its.length hi - HT.qz its.length 0 lo)).toArray:=by
 obtain⟨h1,h2,h3⟩:=uP lo hi its.toArray.size
 unfold slicePick
 rw[h1,h2,h3]
 simp only[sliceRange_one,pick_run,n4] <;> rfl
def Ms(K:Frag):V→Option Int→Option Int→Hp→VK→Prop:=fun x lo hi H Q=>∃a xs,x=.ref a∧SqL K H a xs∧∀p,H p=none→Q (.ref p) (fg H p (.lst (BZ xs lo hi)))
theorem Gs:SlR X (Ms X.K):=by
 intro pins s σ H x v vl vu lo hi sl Q I rx hs pl pu h
 obtain⟨a,xs,rfl,hx,q⟩:=h
 cases rx
 obtain⟨its,r,ht,hz⟩:=I.list hx
 have hlen:=r.length
 refine⟨"list",_,slot_list_getitem.lookup,ht.isList.typeIs,?_⟩
 refine wpAny_getItem_list_slice ht.isList hs pl pu .none (by simp) ?_ (by rw[n4] <;> omega)
 rw[tz,←hlen]
 refine⟨.ref s.heap.objs.size,_,I.laid (t':=s.toks) (o:=.lst (BZ xs lo hi)) (fun b ob q=>iB _ q) (gR _) ?_,rfl,q _ (I.hok.fresh (gR _))⟩
 exact⟨jS (ww xs lo hi) hz,_,0,(r.drop (HT.qz xs.length 0 lo)).take (HT.qz xs.length xs.length hi - HT.qz xs.length 0 lo),nY _ rfl⟩
def jF:V→Bool
 |.non=>true
 |.bl _=>true
 |.int _=>true
 |.str _=>true
 |_=>false
def F4:V→V→Bool
 |.non,.non=>true
 |.bl a,.bl b=>a == b
 |.bl a,.int b=>(if a then 1 else 0) == b
 |.int a,.bl b=>a == (if b then 1 else 0)
 |.int a,.int b=>a == b
 |.str a,.str b=>a == b
 |_,_=>false
theorem Jd{A:Around}{s:Shared}{y x:V}{u v:Value}(ry:RelV y u)(rx:RelV x v)(fy:jF y=true)(fx:jF x=true):SeqAt.EqAt A s u v (F4 y x):=by
 cases y with
 |non=>
  cases ry
  cases x with
  |non=>cases rx;exact SeqAt.EqAt.same _
  |bl b=>cases rx;exact SeqAt.EqAt.none_bool b
  |int b=>obtain⟨t,rfl⟩:=rx;exact SeqAt.EqAt.none_int b t
  |str b=>obtain⟨t,rfl⟩:=rx;exact SeqAt.EqAt.none_str b t
  |_=>exact absurd (show false=true from fx) uL
 |bl a=>
  cases ry
  cases x with
  |non=>cases rx;exact SeqAt.EqAt.bool_none a
  |bl b=>cases rx;exact SeqAt.EqAt.bool_bool a b
  |int b=>obtain⟨t,rfl⟩:=rx;exact SeqAt.EqAt.bool_int a b t
  |str b=>obtain⟨t,rfl⟩:=rx;exact SeqAt.EqAt.bool_str a b t
  |_=>exact absurd (show false=true from fx) uL
 |int a=>
  obtain⟨t',rfl⟩:=ry
  cases x with
  |non=>cases rx;exact SeqAt.EqAt.int_none a t'
  |bl b=>cases rx;exact SeqAt.EqAt.int_bool a t' b
  |int b=>obtain⟨t,rfl⟩:=rx;exact SeqAt.EqAt.int_int a t' b t
  |str b=>obtain⟨t,rfl⟩:=rx;exact SeqAt.EqAt.int_str a t' b t
  |_=>exact absurd (show false=true from fx) uL
 |str a=>
  obtain⟨t',rfl⟩:=ry
  cases x with
  |non=>cases rx;exact SeqAt.EqAt.str_none a t'
  |bl b=>cases rx;exact SeqAt.EqAt.str_bool a t' b
  |int b=>obtain⟨t,rfl⟩:=rx;exact SeqAt.EqAt.str_int a t' b t
  |str b=>obtain⟨t,rfl⟩:=rx;exact SeqAt.EqAt.str_str a t' b t
  |_=>exact absurd (show false=true from fx) uL
 |_=>exact absurd (show false=true from fy) uL
def tT(x:V)(u:Value):Bool:=match u with
 |.none=>F4 .non x
 |.bool b=>F4 (.bl b) x
 |.int i _=>F4 (.int i) x
 |.str z _=>F4 (.str z) x
 |_=>false
theorem DK{x y:V}{u:Value}(r:RelV y u)(f:jF y=true):tT x u=F4 y x:=by
 cases y with
 |non=>cases r;rfl
 |bl b=>cases r;rfl
 |int i=>obtain⟨t,rfl⟩:=r;rfl
 |str z=>obtain⟨t,rfl⟩:=r;rfl
 |_=>exact absurd (show false=true from f) uL
theorem n_{x:V}:∀{xs:List V} {us:List Value},Vals xs us→xs.all jF=true→us.any (tT x)=xs.any fun y=>F4 y x
 |_,_,.nil,_=>rfl
 |y::xs,u::us,.cons r t,f=>by
  rw[List.all_cons,yQ]at f
  rw[List.any_cons,List.any_cons,DK r f.1,n_ t f.2]
theorem i7{A:Around}{s:Shared}{x:V}{v:Value}(rx:RelV x v)(fx:jF x=true):∀{xs:List V} {us:List Value},Vals xs us→xs.all jF=true→∀u∈us,SeqAt.EqAt A s u v (tT x u)
 |_,_,.nil,_=>fun u hu=>by cases hu
 |y::xs,u::us,.cons r t,f=>fun u' hu=>by
  rw[List.all_cons,yQ]at f
  rcases Zap.mp hu with rfl |hu
  ·rw[DK r f.1];exact Jd r rx f.1 fx
  ·exact i7 rx fx t f.2 u' hu
def HV(x:V)(xs:List V):Bool:=xs.any fun y=>F4 y x
def Mt(K:Frag)(neg:Bool):R2:=fun x y H Q=>∃p xs,y=.ref p∧(SqL K H p xs∨SqT K H p xs)∧jF x=true∧xs.all jF=true∧Q (.bl (if neg then !HV x xs else HV x xs)) H
theorem B3:OpR X (compareOp .In) (Mt X.K false):=by
 intro pins s σ H x y v u Q I rx ry h
 obtain⟨p,xs,rfl,hq,fx,fs,q⟩:=h
 cases ry
 rcases hq with hq |hq
 ·obtain⟨its,r,pl,hz⟩:=I.list hq
  refine SeqAt.in_listAt (tT x) pl.isList (fun w hw=>i7 rx fx r fs w (by simpa using hw)) ⟨.bl _,H,I,rfl,?_⟩
  rw[show its.toArray.any (tT x)=its.any (tT x) by simp,n_ r fs]
  exact q
 ·obtain⟨its,r,pl,hz⟩:=I.tuple hq
  refine SeqAt.in_tupleAt (tT x) pl (fun w hw=>i7 rx fx r fs w (by simpa using hw)) ⟨.bl _,H,I,rfl,?_⟩
  rw[show its.toArray.any (tT x)=its.any (tT x) by simp,n_ r fs]
  exact q
theorem uQ:OpR X (compareOp .NotIn) (Mt X.K true):=by
 intro pins s σ H x y v u Q I rx ry h
 obtain⟨p,xs,rfl,hq,fx,fs,q⟩:=h
 cases ry
 rcases hq with hq |hq
 ·obtain⟨its,r,pl,hz⟩:=I.list hq
  refine SeqAt.notIn_listAt (tT x) pl.isList (fun w hw=>i7 rx fx r fs w (by simpa using hw)) ⟨.bl _,H,I,rfl,?_⟩
  rw[show its.toArray.any (tT x)=its.any (tT x) by simp,n_ r fs]
  exact q
 ·obtain⟨its,r,pl,hz⟩:=I.tuple hq
  refine SeqAt.notIn_tupleAt (tT x) pl (fun w hw=>i7 rx fx r fs w (by simpa using hw)) ⟨.bl _,H,I,rfl,?_⟩
  rw[show its.toArray.any (tT x)=its.any (tT x) by simp,n_ r fs]
  exact q
theorem uR:OpR X (compareOp .NotIn) (fun x y H Q=>∃i j,x=.str i∧y=.str j∧Q (.bl (!(!(Builtin.Str.occurrences j i 0 j.length 1).isEmpty))) H):=by
 intro pins s σ H x y v u Q I rx ry h
 obtain⟨i,j,rfl,rfl,q⟩:=h
 obtain⟨t,rfl⟩:=rx
 obtain⟨t',rfl⟩:=ry
 exact notIn_str ⟨.bl _,H,I,rfl,q⟩
theorem uS:CallR X (.builtin "len") (fun xs H Q=>∃p ys,xs=[.ref p]∧(SqL X.K H p ys∨SqT X.K H p ys)∧Q (.int ys.length) H):=by
 intro pins s σ H xs us Q I r h
 obtain⟨p,ys,rfl,hq,q⟩:=h
 obtain⟨u,rfl,rx⟩:=rj r
 cases rx
 have hn:=oU
 rcases hq with hq |hq
 ·obtain⟨its,r',pl,hz⟩:=I.list hq
  have hlen:=r'.length
  exact Calls.call_len_list pl.isList (by simp only[n4] <;> omega) ⟨.int ys.length,H,I.tok _,⟨s.toks+1,by rw[n4,hlen]⟩,q⟩
 ·obtain⟨its,r',pl,hz⟩:=I.tuple hq
  have hlen:=r'.length
  exact len_tuple pl (by simp only[n4] <;> omega) ⟨.int ys.length,H,I.tok _,⟨s.toks+1,by rw[n4,hlen]⟩,q⟩
theorem uT:CallR X (.builtin "len") (fun xs H Q=>∃z,xs=[.str z]∧z.length≤sizeLine∧Q (.int z.length) H):=by
 intro pins s σ H xs us Q I r h
 obtain⟨z,rfl,hz,q⟩:=h
 obtain⟨u,rfl,t,rfl⟩:=rj r
 have hn:=oU
 exact len_str (by omega) ⟨.int z.length,H,I.tok _,⟨_,rfl⟩,q⟩
theorem CallR.or{f:Value}{r r':List V→Hp→VK→Prop}(h:CallR X f r)(h':CallR X f r'):CallR X f (fun xs H Q=>r xs H Q∨r' xs H Q):=by
 intro pins s σ H xs us Q I rs q
 rcases q with q |q
 ·exact h pins s σ H xs us Q I rs q
 ·exact h' pins s σ H xs us Q I rs q
theorem uU:CallR X (.type "list") (fun xs H Q=>∃p ys,xs=[.ref p]∧(SqL X.K H p ys∨SqT X.K H p ys)∧∀l,H l=none→Q (.ref l) (fg H l (.lst ys))):=by
 intro pins s σ H xs us Q I r h
 obtain⟨p,ys,rfl,hq,q⟩:=h
 obtain⟨u,rfl,rx⟩:=rj r
 cases rx
 have fin:∀(its:List Value),Vals ys its→ys.length≤sizeLine→∀(h':Heap) (c':Nat),(∀b o',s.heap.get? b=some o'→h'.get? b=some o')→
   h'.get? s.heap.objs.size=some {cls:=.type "list",dict:=none,data:=.seq its.toArray c',slots:=#[]}→EP X pins σ Q (.ref s.heap.objs.size) {s with heap:=h'}:=fun its r' hz h' c' kp e=>
  ⟨.ref s.heap.objs.size,_,I.laid (t':=s.toks) kp (gR _) (show ObjOk X.prog X.w _ h' _ (.lst ys)from⟨hz,its,c',r',e⟩),rfl,q _ (I.hok.fresh (gR _))⟩
 rcases hq with hq |hq
 ·obtain⟨its,r',pl,hz⟩:=I.list hq
  have hlen:=r'.length
  obtain⟨o,ho,hc,n,hd⟩:=pl.isList
  exact call_list_seq p (.inl rfl) ho hc hd (fun h' c' kp e=>fin its r' hz h' c' kp e) (by simp only[n4] <;> omega)
 ·obtain⟨its,r',pl,hz⟩:=I.tuple hq
  have hlen:=r'.length
  obtain⟨o,ho,hc,n,hd⟩:=pl
  exact call_list_seq p (.inr rfl) ho hc hd (fun h' c' kp e=>fin its r' hz h' c' kp e) (by simp only[n4] <;> omega)
def Mu(K:Frag)(T:String)(x:V)(H:Hp):Prop:=match x with
 |.str _=>T="str"
 |.int _=>T="int"
 |.ref p=>(T="list"∧∃xs,SqL K H p xs)∨(T="tuple"∧∃o,K.lookup p=some o∧o.cls=.type "tuple"∧o.dict=none)∨
   (T="dict"∧((∃kvs,H p=some (.dK kvs))∨∃kvs,H p=some (.dT kvs)))∨(T="set"∧∃S n,H p=some (.set S n))
 |_=>False
theorem DL{σ:St}{H:Hp}{s:Shared}{T:String}{x:V}{v:Value}(I:Inv X pins σ H s)(r:RelV x v)(ty:Mu X.K T x H):
  s.TypeIs v T∧∀a,v=.ref a→∃ob,s.heap.get? a=some ob∧ob.dict=none:=by
 cases x with
 |str z=>
  obtain⟨t,rfl⟩:=r
  cases(show T="str" from ty)
  exact⟨typeIs_str s z t,fun _ e=>nomatch e⟩
 |int i=>
  obtain⟨t,rfl⟩:=r
  cases(show T="int" from ty)
  exact⟨typeIs_int s i t,fun _ e=>nomatch e⟩
 |ref p=>
  cases r
  rcases ty with⟨rfl,xs,hq⟩ |⟨rfl,o,hk,hc,hd⟩ |⟨rfl,hk⟩ |⟨rfl,S,n,hk⟩
  ·obtain⟨its,_,pl,_⟩:=I.list hq
   refine⟨pl.isList.typeIs,fun a e=>?_⟩
   cases e
   obtain⟨o,n,e,c,hd,_⟩:=pl
   exact⟨o,e,hd⟩
  ·refine⟨⟨o,I.kIn p o hk,hc⟩,fun a e=>?_⟩
   cases e
   exact⟨o,I.kIn _ o hk,hd⟩
  ·have z:∃o,s.heap.get? p=some o∧o.ExactDict:=by
    rcases hk with⟨kvs,hk⟩ |⟨kvs,hk⟩
    ·obtain⟨_,_,_,_,o,_,_,e,ex,_⟩:=I.hok p _ hk
     exact⟨o,e,ex⟩
    ·obtain⟨_,_,_,_,o,_,_,e,ex,_⟩:=I.hok p _ hk
     exact⟨o,e,ex⟩
   obtain⟨o,e,ex⟩:=z
   refine⟨⟨o,e,ex.1⟩,fun a e2=>?_⟩
   cases e2
   exact⟨o,e,ex.2.1⟩
  ·obtain⟨o,_,_,_,e,ex,_⟩:=I.hok p _ hk
   refine⟨⟨o,e,ex.1⟩,fun a e2=>?_⟩
   cases e2
   exact⟨o,e,ex.2.1⟩
 |_=>exact False.elim ty
def Mv(K:Frag)(T:String)(r:V→List V→Hp→VK→Prop)(to:TE):TE:=fun σ H Q=>to σ H fun x H1=>Mu K T x H1∧r x [] H1 Q
def NE(K:Frag)(T:String)(r:V→List V→Hp→VK→Prop)(to:TE)(t:TA):TE:=fun σ H Q=>to σ H fun x H1=>Mu K T x H1∧t σ H1 fun xs H2=>r x xs H2 Q
variable {o e:Expr} {es:List Expr} {to:TE} {t:TA} {name:Str} {apos cpos:Pos} {T id:String} {r:V→List V→Hp→VK→Prop}
theorem Je(pa:PlainAttrs T) (slot:Slot T name id) (hty:typeOf (.builtin id)=pure (.type "method_descriptor")) (hm:Kn X id r) (ho:PE X o to)
  (hbase:attributeBase o name X.env (eval o X.env)=eval o X.env:=by rfl) (hline:(apos.endLine == cpos.line)=true:=by rfl):PE X (.Call (.Attribute o name apos) [] [] cpos) (Mv X.K T r to):=by
 intro pins s σ H Q I h
 refine wpAny_Call_method0_late hbase hline (fA (ho pins s σ H _ I h) fun v s1 ⟨x,H1,I1,r1,ty,q1⟩=>?_)
 obtain⟨h1,h2⟩:=DL I1 r1 ty
 exact⟨T,id,pa,slot,hty,h1,h2,Calls.callWith_builtin rfl (PySem.evalArgs_none (hm pins s1 σ H1 x [] v [] Q I1 r1 .nil q1))⟩
theorem wx(pa:PlainAttrs T) (slot:Slot T name id) (hty:typeOf (.builtin id)=pure (.type "method_descriptor")) (hm:Kn X id r) (ho:PE X o to) (ha:PA X (e::es) t)
  (hbase:attributeBase o name X.env (eval o X.env)=eval o X.env:=by rfl)
  (hfew:((backTo cpos (starEach (e::es) X.env)).all (fun x=> !x.1)&&(backToKw cpos (keywordEach [] X.env)).all (fun x=>x.1.isSome)
   &&decide ((e::es).length+([]:List Keyword).length+(if ([]:List Keyword).isEmpty then 0 else 1) < 30))=true:=by rfl)
  (hline:(apos.endLine == cpos.line)=true:=by rfl) (hs:starEach (e::es) X.env=(false,eval e X.env)::starEach es X.env:=by rfl) (hplain:(backTo cpos (starEach es X.env)).any (·.1)=false:=by rfl):
  PE X (.Call (.Attribute o name apos) (e::es) [] cpos) (NE X.K T r to t):=by
 intro pins s σ H Q I h
 refine wpAny_Call_method_late hbase hfew hline rfl (fA (ho pins s σ H _ I h) fun v s1 ⟨x,H1,I1,r1,ty,q1⟩=>?_)
 obtain⟨h1,h2⟩:=DL I1 r1 ty
 refine⟨T,id,pa,slot,hty,h1,h2,?_⟩
 have hA:=ha cpos pins s1 σ H1 _ I1 q1
 rw[hs]at hA ⊢
 refine Calls.callWith_builtin (by show(false||(backTo cpos (starEach es X.env)).any (·.1))=false;rw[hplain] <;> rfl) (Calls.evalArgs_plain ?_)
 exact fA hA fun us s2 ⟨vs,H2,I2,r2,q2⟩=>hm pins s2 σ H2 x vs v us Q I2 r1 r2 q2
end
end L2
namespace L2
open PySem PySem.Spec PyProof.Rows
def Nn(X:Cx)(id:String)(r:V→List V→Hp→VK→Prop):Prop:=
 ∀(pins:List (Addr×Obj)) (s:Shared) (σ:St) (H:Hp) (x:V) (xs:List V) (v:Value) (us:List Value) (Q:VK),Inv X pins σ H s→RelV x v→Vals xs us→r x xs H Q→
  wpAny (model X.prog X.w) X.A (call (.builtin id) (v::us)) (EP X pins σ Q) X.xe s
theorem Vals.one{x:V}(h:Vals [x] us):∃u,us=[u]∧RelV x u:=by
 cases h with
 |cons r t=>cases t;exact⟨_,rfl,r⟩
theorem Vals.two{x y:V}(h:Vals [x,y] us):∃u v,us=[u,v]∧RelV x u∧RelV y v:=by
 cases h with
 |cons r t=>
  obtain⟨v,rfl,q⟩:=Vals.one t
  exact⟨_,_,rfl,r,q⟩
theorem Vals.zero:∀{us:List Value},Vals [] us→us=[]
 |_,.nil=>rfl
theorem Vals.dropLast(h:Vals xs us):Vals xs.dropLast us.dropLast:=by
 induction h with
 |nil=>exact .nil
 |cons r t ih=>
  cases t with
  |nil=>exact .nil
  |cons q t'=>exact .cons r ih
theorem Vals.rep(h:Vals xs us):∀k:Nat,Vals (List.replicate k xs).flatten (List.replicate k us).flatten
 | 0=>.nil
 |k+1=>by
  rw[List.replicate_succ,List.replicate_succ,List.flatten_cons,List.flatten_cons]
  exact Vals.append h (Vals.rep h k)
theorem zF(l:List α):l.eraseIdx (l.length - 1)=l.dropLast:=by
 induction l with
 |nil=>rfl
 |cons a r ih=>
  cases r with
  |nil=>rfl
  |cons b r=>
   have e:(a::b::r).length - 1=((b::r).length - 1)+1:=by
    have h1:(a::b::r).length=r.length+2:=rfl
    have h2:(b::r).length=r.length+1:=rfl
    omega
   rw[e,List.eraseIdx_cons_succ,ih]
   all_goals rfl
section
variable {X:Cx} {pins:List (Addr×Obj)} {σ:St} {H:Hp} {s:Shared} {l b:Addr} {xs ys zs:List V}
theorem Inv.lset{its':List Value}{n:Nat}{f:Array Value→Array Value}(I:Inv X pins σ H s)(hH:H l=some (.lst xs))
  (e:s.heap.get? l=some {cls:=.type "list",data:=.seq its.toArray n}) (hf:f its.toArray=its'.toArray) (hv:Vals ys its') (hz:ys.length≤sizeLine):
  Inv X pins σ (fg H l (.lst ys)) {s with heap:=s.heap.update l (Obj.mapSeq f),toks:=t'}:=by
 have q:=PySem.IsL.update e f
 rw[hf]at q
 refine I.write (x:=l) (e:=l) (by rw[hH];exact trivial) (.inl rfl) (fun b' u hb hu=>(Heap.get?_update_other s.heap (Obj.mapSeq f) (Ne.symm hb)).trans hu) ⟨_,q⟩ ?_
 exact⟨hz,its',_,hv,q⟩
theorem Inv.lnew(I:Inv X pins σ H s)(hv:Vals ys its)(hz:ys.length≤sizeLine):
  Inv X pins σ (fg H s.heap.objs.size (.lst ys)) {s with heap:=s.heap.push {cls:=.type "list",data:=.seq its.toArray},toks:=t'}:=
 I.laid (fun _ _ q=>iB _ q) (gR _) ⟨hz,its,0,hv,nY _ rfl⟩
theorem Inv.fresh(I:Inv X pins σ H s):H s.heap.objs.size=none:=I.hok.fresh (gR _)
theorem Inv.lstM(I:Inv X pins σ H s)(hH:H l=some (.lst xs)):xs.length≤sizeLine∧∃(its:List Value) (n:Nat),Vals xs its∧xs.length=its.length∧s.heap.get? l=some {cls:=.type "list",data:=.seq its.toArray n}:=by
 obtain⟨z,its,n,r,e⟩:=I.hok l _ hH
 exact⟨z,its,n,r,r.length,e⟩
end
section
variable {X:Cx}
def Gu:V→List V→Hp→VK→Prop:=fun x vs H Q=>∃l xs y,x=.ref l∧vs=[y]∧H l=some (.lst xs)∧xs.length < sizeLine∧Q .non (fg H l (.lst (xs++[y])))
theorem tU:Nn X "list.append" Gu:=by
 intro pins s σ H x vs v us Q I rx rv h
 obtain⟨l,xs,y,rfl,rfl,hH,hz,q⟩:=h
 cases rx
 obtain⟨u,rfl,ru⟩:=rv.one
 obtain⟨z,its,n,r,hl,e⟩:=I.lstM hH
 refine call_meets F.slot_list_append ⟨_,e,rfl⟩ F.entry_list_append (F.args_list_append_2 _ _) (PySem.list_append l its.toArray n u (by rw[n4];omega)) ⟨e,?_⟩
 refine⟨.non,_,I.lset (its':=its++[u]) hH e (by simp) (r.append (.cons ru .nil)) ?_,rfl,q⟩
 rw[iK,List.length_singleton]
 omega
def Mw:V→List V→Hp→VK→Prop:=fun x vs H Q=>∃l xs y,x=.ref l∧vs=[]∧H l=some (.lst xs)∧xs[xs.length - 1]? =some y∧Q y (fg H l (.lst xs.dropLast))
theorem Jf:Nn X "list.pop" Mw:=by
 intro pins s σ H x vs v us Q I rx rv h
 obtain⟨l,xs,y,rfl,rfl,hH,hy,q⟩:=h
 cases rx
 have hus:=rv.zero
 subst hus
 obtain⟨z,its,n,r,hl,e⟩:=I.lstM hH
 obtain⟨u,hu,ru⟩:=r.get hy
 have hy':its.toArray[its.toArray.size - 1]? =some u:=by
  show its.toArray[its.length - 1]? =some u
  rw[←Array.getElem?_toList,←hl]
  exact hu
 refine call_meets F.slot_list_pop ⟨_,e,rfl⟩ F.entry_list_pop (F.args_list_pop_1 _) (MeetsSeq.list_pop_last l its.toArray n u hy' (by rw[n4];omega)) ⟨e,?_⟩
 refine⟨y,_,I.lset (its':=its.dropLast) hH e ?_ r.dropLast ?_,ru,q⟩
 ·show its.toArray.eraseIdxIfInBounds (its.toArray.size - 1)=its.dropLast.toArray
  rw[n4,List.eraseIdxIfInBounds_toArray,zF]
 ·rw[List.length_dropLast]
  omega
theorem Gv(xs:List α)(k:Nat):(List.replicate k xs).flatten.length=k*xs.length:=by
 induction k with
 |zero=>simp
 |succ k ih=>rw[List.replicate_succ,List.flatten_cons,iK,ih,Nat.succ_mul,Nat.add_comm]
end
end L2
namespace Att
open PySem PySem.W PySem.Calls PyProof.Rows
theorem qA{P:Params}:∀(ns:List Int) (vs:List Value),WellAll P h vs (ns.map WData.int)→IntsAre vs ns:=by
 intro ns
 induction ns with
 |nil=>
  intro vs w
  rw[List.map_nil]at w
  cases w
  exact .nil
 |cons n ns ih=>
  intro vs w
  rw[eR]at w
  cases w with
  |cons a b=>
   cases a
   exact .cons _ _ (ih _ b)
theorem B4{l:OpenLaw}{n:Nat}(hn:l.most=some n){P:Params}{args:List WData}{vals:List Value}
  (hpre:l.row.toRowW.claim.pre args=true) (hwl:WellAll P h vals args):
  ∃a vs ns,vals=[Value.ref a]∧args=[WData.list (ns.map WData.int)]∧h.get? a=some {cls:=.type "list",data:=.seq vs.toArray}∧IntsAre vs ns∧ns.length≤n:=by
 have hsh:WShape.hasAll [] args [.list .int]=true:=(pre_splitW hpre).1
 have hc:l.pre.holds [] {args:=args}=true:=(pre_splitW hpre).2
 obtain⟨d,r,rfl,h1,h2⟩:=hasAllW_cons hsh
 obtain rfl:=hasAllW_nil h2
 obtain⟨xs,rfl,h3⟩:=hasW_list h1
 obtain⟨ns,rfl⟩:=items_int h3
 have hlen:ns.length≤n:=by
  unfold OpenLaw.pre at hc
  have h4:(WTm.not (.lt (.lit (.int (n:Int))) (.len (.arg 0)))).holds [] {args:=[.list (ns.map .int)]}=true:=by
   have h4:=(holds_andW hc).1
   rw[hn]at h4
   exact h4
  have h5:=condW_of h4 (w_not (w_lt w_lit (w_len_list (w_arg rfl))))
  rw[c_]at h5
  refine Nat.le_of_not_lt fun q=>?_
  have q':(n:Int) < ((ns.length:Nat):Int):=by omega
  first
   |(rw[zz4 q']at h5;exact absurd h5 (by decide))
   |(simp at h5;omega)
 cases hwl with
 |cons w1 w2=>
  cases w2
  cases w1 with
  |list ho hall=>exact⟨_,_,ns,rfl,rfl,ho,qA ns _ hall,hlen⟩
theorem B5(l:OpenLaw)(args:List WData):l.row.toRowW.claim.post args (.bool true) args=true:=
 postW_of (r:=l.row.toRowW) (X:=(true == true))
  (show WShape.has [] (.bool true) .bool=true by first |rfl |decide |simp[WShape.has,WShape.arms,WShape.armsAll])
  (show(WTm.eq .res (.lit (.bool true))).value [] {args:=args,res:=some (.bool true),after:=args}=some (.bool (true == true))from w_eq_bool (w_res rfl) w_lit) rfl
theorem wy{l:OpenLaw}{n:Nat}{d:DefRec}
  (hn:l.most=some n) (hdf:d.params.defaults=[])
  (call:∀(w:World) (s₀ s₁:Shared) (mg mb:Str→Option Value) (fa:Addr) (o:Obj) (pm cd doc:Value) (a:Addr) (vs:List Value) (ns:List Int),
   Ground q loose [] XP w s₀ mg mb s₁.heap→YP w s₁.heap→
   s₁.heap.get? fa=some o→o.data=.func (docDef d.name d.params d.body d.scope pm cd doc)→s₁.heap.CodeRec cd d.name→mg d.name=some (.ref fa)→
   s₁.heap.get? a=some {cls:=.type "list",data:=.seq vs.toArray}→IntsAre vs ns→ns.length≤n→s₁.gens=#[]→
   codeAny (model l.prog w) callerA (.call (.ref fa) ⟨[.ref a],[]⟩) (fun r s'=>r=.ok (.ret (.bool true))∧OldK s₁.heap s'.heap∧s'.os=s₁.os∧AllBare s'.gens) s₁):
  WalkO q loose XP YP l.row.toRowW d [] (fun f vs=>PySem.call f vs):=by
 intro w s₀ s₁ mg mb G Y fa o pm cd doc dV kV ho hd hcd hD hmg hg args vals as hpre hlay hrd hwl hlo
 obtain rfl:dV=.none:=Dflts.none hD hdf
 obtain rfl:kV=.none:=Dflts.noKw hD
 obtain⟨a,vs,ns,rfl,rfl,hobj,hints,hlen⟩:=B4 hn hpre hwl
 refine enter_call (codeAny_mono (call w s₀ s₁ mg mb fa o pm cd doc a vs ns G Y ho (fd_plain hd) hcd hmg hobj hints hlen hg) fun r s' hq=>?_)
 obtain⟨rfl,h2,h3,h4⟩:=hq
 exact⟨.inl ⟨.bool true,.bool true,[],rfl,fun _=>rfl,.bool true,B5 l _,fun _=>⟨List.Pairwise.nil,fun _ hm=>(nomatch hm)⟩⟩,h2,h3,h4⟩
end Att
namespace L2
open PySem PySem.Spec PyProof.Rows
theorem jU:∀{vs:List Value} {ns:List Int},IntsAre vs ns→Vals (ns.map V.int) vs
 |_,_,.nil=>.nil
 |_,_,.cons n t h=>.cons ⟨t,rfl⟩ (jU h)
theorem ObjOk.tbl0{w:World}{H:Hp}{b:Addr}{q:Str}(e:h.get? b=some (tabObj #[])):ObjOk P w H h b (.tbl q):=⟨#[],e,trivial,fun pos cv z=>by cases z⟩
end L2
namespace L2
open PySem PySem.Spec PyProof.Rows
def dw(s:Stmt):Arguments:=match s with
 | .FunctionDef _ a _ _ _ _ _ _ _ _=>a
 |_=>{posonlyargs:=[],args:=[],vararg:=none,kwonlyargs:=[],kw_defaults:=[],kwarg:=none,defaults:=[]}
def bI(s:Stmt):List Stmt:=match s with
 | .FunctionDef _ _ b _ _ _ _ _ _ _=>b
 |_=>[]
def aq(s:Stmt):Scope:=match s with
 | .FunctionDef _ _ _ _ _ _ sc _ _ _=>sc
 |_=>{kind:=.function,names:=[],isGenerator:=false,isCoroutine:=false}
abbrev yR:DF:=fun _ _ _ _ _ _=>False
abbrev E0:XK:=fun _ _ _=>False
theorem KW:zE yR X E0:=fun _ _ _ _ _ _ _ h=>h.elim
structure Fun (K:Frag) (x qual:Str) (st:Stmt) (f:Addr) (fd:FuncData):Prop where
 ex:∃(oc:Value) (od:Option Addr) (kV doc pm:Value) (an:Option Addr) (cdv ct:Value) (osl:Array (Option Value)),
  fd=fnOf x qual (dw st) (bI st) (aq st) .none kV doc pm an cdv ct∧K.lookup f=some ⟨oc,od,.func fd,osl⟩∧codeIn K cdv qual=true
 kp:keepIn K (.ref f)=true
section
variable {P:Program} {w:World} {K:Frag} {mg:Str→Option Value} {base:Heap}
theorem Fun.ok{f:Addr}{N:List Str}(F:Fun K x qual st f fd)(S:FnScope N ps (aq st))(len:∀vs H Q E,sp vs H Q E→vs.length=ps.length)
  (hbody:∀(cdv:Value) (A:Around) (outer:List Env) (s:Shared) (H:Hp) (vs:List V) (Q:VK) (E:XK),Room k (A.deeper (envOfC qual (aq st) s.heap.objs.size f cdv))→sp vs H Q E→
   ∃t,PSs (kl yR P w K mg base N qual (aq st) f cdv A outer s H E).nox (bI st) t∧t {nx:=fun _ H'=>Q .non H',rt:=Q} (iL N vs) H):FnOk P w K mg base yR (k+1) f fd ps sp:=by
 obtain⟨oc,od,kV,doc,pm,an,cdv,ct,osl,rfl,lk,hcd⟩:=F.ex
 refine DH lk hcd S len fun A outer s H vs Q E hr hsp=>?_
 obtain⟨t,h,q⟩:=hbody cdv A outer s H vs Q E hr hsp
 exact⟨t,h.nox,q⟩
theorem Fun.binds{f:Addr}(F:Fun K x qual st f fd)
  (h:∀(kV doc pm:Value) (an:Option Addr) (cdv ct:Value) (us:List Value),us.length=ps.length→bindArgs (fnOf x qual (dw st) (bI st) (aq st) .none kV doc pm an cdv ct) ⟨us,[]⟩=pure (ps.zip us)):Binds K fd ps []:=by
 obtain⟨oc,od,kV,doc,pm,an,cdv,ct,osl,rfl,lk,hcd⟩:=F.ex
 exact .all (h kV doc pm an cdv ct)
theorem zG{f:Addr}{od:Option Addr}{kV ct:Value}(l:K.lookup f=some ⟨oc,od,.func (fnOf x qual (dw st) (bI st) (aq st) .none kV doc pm an cdv ct),osl⟩)
  (c:codeIn K cdv qual=true) (k:keepIn K (.ref f)=true):Fun K x qual st f (fnOf x qual (dw st) (bI st) (aq st) .none kV doc pm an cdv ct):=⟨⟨oc,od,kV,doc,pm,an,cdv,ct,osl,rfl,l,c⟩,k⟩
end
def Same(H H':Hp):Prop:=∀b o,H b=some o→H' b=some o
theorem Same.refl(H:Hp):Same H H:=fun _ _ h=>h
theorem Same.trans{H H1 H2:Hp}(a:Same H H1)(b:Same H1 H2):Same H H2:=fun c o h=>b c o (a c o h)
theorem Same.free{H:Hp}(e:Same H H'){l:Addr}(h:H' l=Option.none):H l=Option.none:=by
 cases q:H l with
 |none=>rfl
 |some o=>
  rw[e l o q]at h
  cases h
theorem Same.seq{K:Frag}{H:Hp}(e:Same H H')(h:SqL K H a xs):SqL K H' a xs:=by
 rcases h with(h |⟨o,h⟩) |h
 ·exact .inl (.inl (e _ _ h))
 ·exact .inl (.inr ⟨o,e _ _ h⟩)
 ·exact .inr h
end L2
namespace NH
section
variable {α:Type} [DecidableEq α]
def stp(r:List (α×Int))(p:α×Int):List (α×Int):=
 match r with
 |[]=>if p.2=0 then []else [p]
 |q::r'=>if q.1=p.1 then (if q.2+p.2=0 then r' else (p.1,q.2+p.2)::r')else (if p.2=0 then q::r' else p::q::r')
def stk(c:List (α×Int)):List (α×Int):=c.foldl stp []
def short(c:List (α×Int)):List (α×Int):=(stk c).reverse
def rk(c:List (α×Int)):List (α×Int):=c.foldr (fun p r=>stp r p) []
def Red:List (α×Int)→Prop
 |[]=>True
 |[p]=>p.2≠0
 |p::q::r=>p.2≠0∧p.1≠q.1∧Red (q::r)
theorem Red.tail{p:α×Int}{r:List (α×Int)}(h:Red (p::r)):Red r:=by
 cases r with
 |nil=>trivial
 |cons q r=>exact h.2.2
theorem Red.head{p:α×Int}{r:List (α×Int)}(h:Red (p::r)):p.2≠0:=by
 cases r with
 |nil=>exact h
 |cons q r=>exact h.1
theorem Red.cons{p:α×Int}{r:List (α×Int)}(h0:p.2≠0)(h1:∀q∈r.head?,p.1≠q.1)(h:Red r):Red (p::r):=by
 cases r with
 |nil=>exact h0
 |cons q r=>exact⟨h0,h1 q rfl,h⟩
theorem Red.next{p:α×Int}{r:List (α×Int)}(h:Red (p::r)):∀q∈r.head?,p.1≠q.1:=by
 cases r with
 |nil=>intro q hq;cases hq
 |cons q r=>intro q' hq;cases hq;exact h.2.1
theorem AE{r:List (α×Int)}(h:Red r)(p:α×Int):Red (stp r p):=by
 cases r with
 |nil=>
  unfold stp
  by_cases h0:p.2=0
  ·simp[h0,Red]
  ·simp[h0,Red]
 |cons q r=>
  show Red (if q.1=p.1 then (if q.2+p.2=0 then r else (p.1,q.2+p.2)::r)else (if p.2=0 then q::r else p::q::r))
  by_cases e:q.1=p.1
  ·rw[if_pos e]
   by_cases z:q.2+p.2=0
   ·rw[if_pos z];exact h.tail
   ·rw[if_neg z]
    refine Red.cons z (fun s hs=>?_) h.tail
    rw[←e];exact h.next s hs
  ·rw[if_neg e]
   by_cases z:p.2=0
   ·rw[if_pos z];exact h
   ·rw[if_neg z];exact⟨z,fun t=>e t.symm,h⟩
theorem oV:∀(c:List (α×Int)) {r:List (α×Int)},Red r→Red (c.foldl stp r)
 |[],_,h=>h
 |p::c,_,h=>oV c (AE h p)
theorem Gw(c:List (α×Int)):Red (stk c):=oV c trivial
theorem rn{r:List (α×Int)}(h:Red r)(n:α):stp r (n,0)=r:=by
 cases r with
 |nil=>simp[stp]
 |cons q r=>
  have:=h.head
  unfold stp
  by_cases e:q.1=n
  ·obtain⟨a,b⟩:=q
   simp at e this
   subst e
   simp[this]
  ·simp[e]
theorem AF{r:List (α×Int)}(h:Red r)(n:α)(a b:Int):stp (stp r (n,a)) (n,b)=stp r (n,a+b):=by
 cases r with
 |nil=>
  by_cases ha:a=0
  ·subst ha;simp[stp]
  ·simp[stp,ha]
 |cons q r=>
  obtain⟨m,u⟩:=q
  have hu:u≠0:=h.head
  by_cases e:m=n
  ·subst e
   by_cases z:u+a=0
   ·have e1:stp ((m,u)::r) (m,a)=r:=by simp[stp,z]
    rw[e1]
    have ez:u+(a+b)=b:=by omega
    have hn:=h.next
    cases r with
    |nil=>
     by_cases hb:b=0
     ·subst hb;simp[stp];omega
     ·simp[stp,ez,hb]
    |cons s r=>
     have e2:¬s.1=m:=fun t=>hn s rfl t.symm
     by_cases hb:b=0
     ·subst hb;simp[stp,e2];omega
     ·simp[stp,ez,hb,e2]
   ·have e1:stp ((m,u)::r) (m,a)=(m,u+a)::r:=by simp[stp,z]
    rw[e1]
    simp only[stp,if_true]
    rw[Int.add_assoc]
  ·by_cases ha:a=0
   ·subst ha;simp[stp,e]
   ·simp[stp,e,ha]
theorem DM{r:List (α×Int)}(h:Red r)(n:α)(a:Int):stp (stp r (n,a)) (n,-a)=r:=by
 rw[AF h,Int.add_right_neg,rn h]
def contr(c:List (α×Int)):List (α×Int):=c.reverse.map fun p=>(p.1,-p.2)
theorem zH(p:α×Int)(c:List (α×Int)):contr (p::c)=contr c++[(p.1,-p.2)]:=by simp[contr]
theorem wz(c:List (α×Int)):contr (contr c)=c:=by
 simp only[contr,List.map_reverse,List.reverse_reverse,List.map_map]
 conv=>rhs;rw[←List.map_id c]
 refine List.map_congr_left fun p _=>?_
 simp
theorem bC(c:List (α×Int)):(contr c).length=c.length:=by simp[contr]
theorem oW:∀(c:List (α×Int)) {r:List (α×Int)},Red r→(c++contr c).foldl stp r=r
 |[],_,_=>rfl
 |p::c,r,h=>by
  rw[zH,←n8,List.foldl_append]
  show stp ((c++contr c).foldl stp (stp r p)) (p.1,-p.2)=r
  rw[oW c (AE h p)]
  exact DM h p.1 p.2
def sn(w:List (α×Int))(p:α×Int):List (α×Int):=(stp w.reverse p).reverse
def qP(p x:α×Int):List (α×Int):=if x.1=p.1 then (if x.2+p.2=0 then []else [(p.1,x.2+p.2)])else (if p.2=0 then [x]else [p,x])
theorem jV(p x:α×Int)(r:List (α×Int)):stp (x::r) p=qP p x++r:=by
 show(if x.1=p.1 then (if x.2+p.2=0 then r else (p.1,x.2+p.2)::r)else (if p.2=0 then x::r else p::x::r))=qP p x++r
 unfold qP
 by_cases e:x.1=p.1
 ·rw[if_pos e,if_pos e];split <;> rfl
 ·rw[if_neg e,if_neg e];split <;> rfl
def Mx(x p:α×Int):List (α×Int):=(qP p x).reverse
theorem AG(p x:α×Int)(r:List (α×Int)):sn (r++[x]) p=r++Mx x p:=by
 unfold sn Mx
 rw[List.reverse_append,List.reverse_singleton,List.singleton_append,jV,List.reverse_append,List.reverse_reverse]
theorem KY(p q:α×Int)(x:α×Int)(hx:x.2≠0):stp (sn [x] q) p=sn (stp [x] p) q:=by
 obtain⟨n,a⟩:=p
 obtain⟨k,b⟩:=q
 obtain⟨m,u⟩:=x
 simp at hx
 by_cases e1:m=n
 ·subst e1
  by_cases e2:m=k
  ·subst e2
   by_cases z1:u+a=0 <;> by_cases z2:u+b=0
   ·simp[stp,sn,z1,z2]
    have:a=b:=by omega
    have ha:a≠0:=by omega
    have hb:b≠0:=by omega
    simp[ha,hb,this]
   ·have hb:u+b+a=b:=by omega
    by_cases b0:b=0
    ·subst b0;simp[stp,sn,z1,hx]
    ·simp[stp,sn,z1,z2,hb,b0]
   ·have hb:u+a+b=a:=by omega
    by_cases a0:a=0
    ·subst a0;simp[stp,sn,z2,hx]
    ·simp[stp,sn,z1,z2,hb,a0]
   ·have hb:u+b+a=u+a+b:=by omega
    by_cases z3:u+a+b=0
    ·simp[stp,sn,z1,z2,hb,z3]
    ·simp[stp,sn,z1,z2,hb,z3]
  ·by_cases z1:u+a=0 <;> by_cases z2:b=0 <;> simp[stp,sn,e2,z1,z2]
 ·by_cases e2:m=k
  ·subst e2
   by_cases z1:u+b=0 <;> by_cases z2:a=0 <;> simp[stp,sn,e1,z1,z2]
  ·by_cases z1:a=0 <;> by_cases z2:b=0 <;> simp[stp,sn,e1,e2,z1,z2]
theorem KZ(p q:α×Int):stp (sn [] q) p=sn (stp [] p) q:=by
 obtain⟨n,a⟩:=p
 obtain⟨k,b⟩:=q
 by_cases z1:a=0 <;> by_cases z2:b=0
 ·simp[stp,sn,z1,z2]
 ·by_cases e:k=n <;> simp[stp,sn,z1,z2,e]
 ·by_cases e:n=k <;> simp[stp,sn,z1,z2,e]
 ·by_cases e:k=n
  ·subst e
   by_cases z:a+b=0
   ·have z':b+a=0:=by omega
    simp[stp,sn,z1,z2,z,z']
   ·have z':¬b+a=0:=by omega
    simp[stp,sn,z1,z2,z,z']
    omega
  ·have e':¬n=k:=fun t=>e t.symm
   simp[stp,sn,z1,z2,e,e']
theorem comm(p q:α×Int){w:List (α×Int)}(h:Red w):stp (sn w q) p=sn (stp w p) q:=by
 cases w with
 |nil=>exact KZ p q
 |cons x r=>
  rcases List.eq_nil_or_concat r with rfl |⟨m,y,e⟩
  ·exact KY p q x h
  ·have e':r=m++[y]:=by rw[e] <;> simp
   subst e'
   have e1:x::(m++[y])=(x::m)++[y]:=rfl
   have e2:sn (x::(m++[y])) q=x::(m++Mx y q):=by rw[e1,AG];rfl
   rw[e2,jV,jV,←n8,←n8,AG]
theorem iD:∀{m:List (α×Int)} {y z:α×Int},Red (m++[y])→z.2≠0→y.1≠z.1→Red (m++[y]++[z])
 |[],y,z,h,h0,h1=>⟨h,h1,h0⟩
 |[x],y,z,h,h0,h1=>⟨h.1,h.2.1,iD (m:=[]) h.2.2 h0 h1⟩
 |x::x'::m,y,z,h,h0,h1=>⟨h.1,h.2.1,iD (m:=x'::m) h.2.2 h0 h1⟩
theorem lm:∀{w:List (α×Int)},Red w→Red w.reverse
 |[],_=>trivial
 |[p],h=>h
 |p::q::r,h=>by
  have ih:=lm (w:=q::r) h.2.2
  rw[Av,Av]
  rw[Av]at ih
  exact iD ih h.1 fun t=>h.2.1 t.symm
theorem jW(c:List (α×Int)):Red (short c):=lm (Gw c)
theorem rq(c:List (α×Int))(p:α×Int):short (c++[p])=sn (short c) p:=by
 unfold short stk sn
 rw[List.foldl_append,List.reverse_reverse]
 rfl
theorem gS(p:α×Int):∀c:List (α×Int),short (p::c)=stp (short c) p:=by
 intro c
 induction hn:c.length generalizing c with
 |zero=>
  have:c=[]:=List.length_eq_zero_iff.mp hn
  subst this
  simp[short,stk,stp]
  by_cases z:p.2=0 <;> simp[z]
 |succ n ih=>
  rcases List.eq_nil_or_concat c with rfl |⟨m,y,e⟩
  ·simp at hn
  ·have e':c=m++[y]:=by rw[e] <;> simp
   subst e'
   have hm:m.length=n:=by simp at hn;exact hn
   have e1:p::(m++[y])=(p::m)++[y]:=rfl
   rw[e1,rq,ih m hm,rq,comm p y (jW m)]
theorem fR:∀c:List (α×Int),short c=rk c
 |[]=>rfl
 |p::c=>by rw[gS,fR c];rfl
theorem pU:∀{w:List (α×Int)},Red w→rk w=w
 |[],_=>rfl
 |[p],h=>by
  have:p.2≠0:=h
  simp[rk,stp,this]
 |p::q::r,h=>by
  have ih:=pU (w:=q::r) h.2.2
  show stp (rk (q::r)) p=_
  rw[ih]
  have h1:¬q.1=p.1:=fun t=>h.2.1 t.symm
  simp[stp,h1,h.1]
theorem rz(c:List (α×Int)):short (c++contr c)=[]:=by
 unfold short stk;rw[oW c (r:=[]) trivial];rfl
theorem uW(r:List (α×Int))(p:α×Int):(stp r p).length≤r.length+1:=by
 cases r with
 |nil=>by_cases z:p.2=0 <;> simp[stp,z]
 |cons q r=>rw[jV];unfold qP;split <;> split <;> simp <;> omega
theorem tV:∀(c:List (α×Int)) (r:List (α×Int)),(c.foldl stp r).length≤r.length+c.length
 |[],r=>by simp
 |p::c,r=>by
  have h1:=tV c (stp r p)
  have h2:=uW r p
  simp only[List.foldl_cons,Z4]
  omega
theorem B6{A B X Y:List (α×Int)}(h:∀r,Red r→X.foldl stp r=Y.foldl stp r):short (A++X++B)=short (A++Y++B):=by
 unfold short stk
 rw[List.foldl_append,List.foldl_append,List.foldl_append,List.foldl_append,h _ (oV A (r:=[]) trivial)]
theorem DN(c:List (α×Int)):∀r:List (α×Int),Red r→(c++contr c).foldl stp r=([]:List (α×Int)).foldl stp r:=fun r h=>oW c h
end
end NH
namespace L2
open PySem PySem.Spec PyProof.Rows
theorem i9{H:Hp}{p:Addr}(h:H p=none)(o:HO):Same H (fg H p o):=fun b u q=>by rw[aM (bN q h)];exact q
theorem Same.tup{K:Frag}{H:Hp}(e:Same H H')(h:SqT K H a xs):SqT K H' a xs:=by
 rcases h with(h |⟨o,h⟩) |h
 ·exact .inl (.inl (e _ _ h))
 ·exact .inl (.inr ⟨o,e _ _ h⟩)
 ·exact .inr h
mutual
inductive DOf (K:Frag) (H:Hp):V→PyData→Prop
 |non:DOf K H .non .none
 |bl (b:Bool):DOf K H (.bl b) (.bool b)
 |int (i:Int):DOf K H (.int i) (.int i)
 |str (x:Str):DOf K H (.str x) (.str x)
 |lst {a:Addr} {xs:List V} {ds:List PyData}:SqL K H a xs→DAll K H xs ds→DOf K H (.ref a) (.list ds)
 |tup {a:Addr} {xs:List V} {ds:List PyData}:SqT K H a xs→DAll K H xs ds→DOf K H (.ref a) (.tuple ds)
inductive DAll (K:Frag) (H:Hp):List V→List PyData→Prop
 |nil:DAll K H [] []
 |cons {x:V} {xs:List V} {d:PyData} {ds:List PyData}:DOf K H x d→DAll K H xs ds→DAll K H (x::xs) (d::ds)
end
section
variable {X:Cx} {pins:List (Addr×Obj)} {σ:St} {H:Hp} {s:Shared}
theorem DOf.reads(I:Inv X pins σ H s){x:V}{u:Value}(h:DOf X.K H x d)(r:RelV x u):∃as,Reads s.heap u d as:=DOf.rec (motive_1:=fun x d _=>∀{u:Value},RelV x u→∃as,Reads s.heap u d as) (motive_2:=fun xs ds _=>∀{us:List Value},Vals xs us→∃as,ReadsAll s.heap us ds as)
  (fun r=>by cases r;exact⟨_,Reads.none⟩) (fun b _ r=>by cases r;exact⟨_,Reads.bool b⟩) (fun i _ r=>by obtain⟨t,rfl⟩:=r;exact⟨_,Reads.int i t⟩) (fun x _ r=>by obtain⟨t,rfl⟩:=r;exact⟨_,Reads.str x t⟩)
  (fun hq _ ih _ r=>by
   cases r
   obtain⟨its,rv,⟨o,n,e,c,_,d⟩,_⟩:=I.list hq
   obtain⟨as,q⟩:=ih rv
   exact⟨_,reads_list_at e c d (by simpa using q)⟩)
  (fun hq _ ih _ r=>by
   cases r
   obtain⟨its,rv,⟨o,e,c,n,d⟩,_⟩:=I.tuple hq
   obtain⟨as,q⟩:=ih rv
   exact⟨_,reads_tuple_at e c d (by simpa using q)⟩)
  (fun r=>by cases r;exact⟨_,ReadsAll.nil⟩)
  (fun _ _ a b _ r=>by
   cases r with
   |cons r rt=>
    obtain⟨as,q⟩:=a r
    obtain⟨bs,p⟩:=b rt
    exact⟨_,ReadsAll.cons q p⟩) h r
end
def K0(K:Frag):R2:=fun x y H Q=>∃d e,DOf K H x d∧DOf K H y e∧SeqAt.shaped d=true∧SeqAt.shaped e=true∧Q (.bl (PyData.eqv d e)) H
def K1(K:Frag):R2:=fun x y H Q=>∃d e,DOf K H x d∧DOf K H y e∧SeqAt.shaped d=true∧SeqAt.shaped e=true∧Q (.bl (!PyData.eqv d e)) H
theorem DO(hu:X.A.units+64 < cLine):OpR X (compareOp .Eq) (K0 X.K):=by
 intro pins s σ H x y v u Q I rx ry h
 obtain⟨d,e,hd,he,s1,s2,q⟩:=h
 obtain⟨as,ra⟩:=hd.reads I rx
 obtain⟨bs,rb⟩:=he.reads I ry
 exact eq_dataH ra rb s1 s2 hu ⟨.bl _,H,I,rfl,q⟩
theorem Jg(hu:X.A.units+64 < cLine):OpR X (compareOp .NotEq) (K1 X.K):=by
 intro pins s σ H x y v u Q I rx ry h
 obtain⟨d,e,hd,he,s1,s2,q⟩:=h
 obtain⟨as,ra⟩:=hd.reads I rx
 obtain⟨bs,rb⟩:=he.reads I ry
 exact ne_dataH ra rb s1 s2 hu ⟨.bl _,H,I,rfl,q⟩
def My(K:Frag)(a:Addr)(xs:List V):It:=
 ⟨fun i H=>SqL K H a xs∧i < xs.length,fun i H x H'=>H'=H∧xs.reverse[i]? =some x,fun i H=>SqL K H a xs∧i=xs.length⟩
theorem DP{w:World}{K:Frag}{tg:Expr}(a it:Addr)(xs:List V):Turn P w K tg (My K a xs) [it] it (fun i h=>h.IsRevIter it a ((xs.length:Int) - 1 - (i:Int))) where
 mem:=by simp
 obj:=fun i h st b hb=>by
  have e:b=it:=by simpa using hb
  subst e
  obtain⟨o,e,c,d⟩:=st
  exact⟨o,e,fun v z=>by rw[d]at z;cases z⟩
 keep:=fun i h h' st k=>st.at fun o e=>k it (by simp) o e
 item:=by
  intro X hP hw hK hc i pins s σ H E I hf st hg
  subst hP hw hK
  obtain⟨hq,hx⟩:=hg
  obtain⟨its,rv,p,hz⟩:=I.list hq
  have hlen:=rv.length
  have e0:(xs.length:Int) - 1 - (i:Int)=((xs.length - 1 - i:Nat):Int):=by omega
  have hget:xs.reverse[i]? =xs[xs.length - 1 - i]? :=List.getElem?_reverse hx
  obtain⟨x,hx'⟩:∃x,xs[xs.length - 1 - i]? =some x:=⟨xs[xs.length - 1 - i]'(by omega),yN (by omega)⟩
  obtain⟨u,hu,ru⟩:=rv.get hx'
  obtain⟨f0,f1,f2,f3,f4,f5⟩:=hf it (by simp)
  have st1:s.heap.IsRevIter it a ((xs.length - 1 - i:Nat):Int):=by rw[←e0];exact st
  refine wpAny_pyNext_rev_item st1 p.isList (x:=u) (by simpa using hu) fun h' st' sb=>?_
  have I1:Inv X pins σ H {s with heap:=h'}:=I.turned (t':=s.toks) (fun b o hb e=>(sb.2 b hb).trans e) f0 f1 f3 f4 f5
  have e1:((xs.length - 1 - i:Nat):Int) - 1=(xs.length:Int) - 1 - ((i+1:Nat):Int):=by omega
  have st2:h'.IsRevIter it a ((xs.length:Int) - 1 - ((i+1:Nat):Int)):=by rw[←e1];exact st'
  obtain⟨o,e,c,d⟩:=id st'
  exact⟨u,rfl,wt (s:={s with heap:=h'}) e c d (by decide) ⟨x,H,I1,ru,⟨rfl,hget.trans hx'⟩,st2,fun b hb=>(hf b hb).1⟩⟩
 done:=by
  intro X hP hw hK hc i pins s σ H E I hf st hg
  subst hP hw hK
  obtain⟨hq,hx⟩:=hg
  obtain⟨f0,f1,f2,f3,f4,f5⟩:=hf it (by simp)
  have e0:(xs.length:Int) - 1 - (i:Int)= -1:=by omega
  have st1:s.heap.IsRevIter it a (-1):=by rw[←e0];exact st
  exact wpAny_pyNext_rev_end (I.ok.hd hc) st1 fun h' eb=>⟨rfl,I.turned (t':=s.toks) (fun b o hb e=>eb b o hb e) f0 f1 f3 f4 f5⟩
 self:=fun _ _ _ _ _ st h=>wpAny_pyIter_revIter st h
section
variable {X:Cx} {tg:Expr}
def Mz(K:Frag)(tl:TA):TI:=fun σ H R=>tl σ H fun vs H1=>∃a xs,vs=[.ref a]∧SqL K H1 a xs∧R (My K a xs) H1
theorem Jh{l:Expr} {tl:TA} {pos:Pos} (hg:Gl X "reversed") (hm:X.mg "reversed"=none) (ha:PA X [l] tl) (hs:starEach [l] X.env=[(false,eval l X.env)]:=by rfl):PI X tg (.Call (.Name "reversed" p) [l] [] pos) (Mz X.K tl):=by
 intro pins s σ H R I h
 refine Call_ (mZ I hg hm boot_reversed (PyProof.Rows.callWith_type1 (fA (ha pos pins s σ H _ I h) fun us s1 ⟨vs,H1,I1,r1,q1⟩=>?_) hs rfl))
 obtain⟨a,xs,e,hq,q⟩:=q1
 subst e
 cases r1 with
 |cons r rr=>
  cases rr
  cases r
  obtain⟨its,rv,p,hz⟩:=I1.list hq
  have hlen:=rv.length
  refine call_reversed_list p.isList ?_
  have hit:(s1.heap.push (revObj a (((its.toArray).size:Int) - 1))).IsRevIter s1.heap.objs.size a ((xs.length:Int) - 1 - ((0:Nat):Int)):=by
   refine⟨_,nY _ rfl,rfl,?_⟩
   have e1:((its.toArray.size:Nat):Int) - 1=(xs.length:Int) - 1 - ((0:Nat):Int):=by rw[n4];omega
   show Data.fields #[.ref a,rawInt ((its.toArray.size:Int) - 1)]=_
   rw[e1]
  have I2:Inv X pins σ H1 {s1 with heap:=s1.heap.push (revObj a (((its.toArray).size:Int) - 1))}:=I1.kept (t':=s1.toks) fun b o e=>iB _ e
  refine wpAny_pyIter_revIter hit ?_
  refine⟨s1.heap.objs.size,[s1.heap.objs.size],_,_,H1,rfl,I2,DP a _ xs,hit,fun b hb=>?_,q⟩
  have e:b=s1.heap.objs.size:=by simpa using hb
  subst e
  have f:=I1.fpOk (H':=H1) (gR _) (I1.hok.fresh (gR _))
  exact f
end
end L2
namespace L2
open PySem PySem.Spec PyProof.Rows
section
variable {prog:Program} {w:World} {A:Around} {R:Result→Shared→Prop} {s:Shared}
theorem uX{elt target:Expr}{ifs:List Expr}{pos:Pos}{it acc:Value}{env:Env}(I:Nat→Shared→Prop)
  (turn:∀n s,I n s→wpAny (model prog w) A (pyNext it) (fun r s₁=>match r with
   |none=>R (.ok .next) s₁
   |some v=>wpAny (model prog w) A (letOwnedTupleGo target it v) (fun _ s₁'=>wpAny (model prog w) A (assign target env v) (fun _ s₂=>
     wpAny (model prog w) A (forIn ifs true fun c r=>if r=true then do let ok ←isTrue c env (eval c env);pure (ForInStep.yield ok)else pure (ForInStep.yield r)) (fun ok s₃=>
      if ok=true then wpAny (model prog w) A (eval elt env) (fun x s₄=>
       wpAny (model prog w) A (call (.builtin "list.append") [acc,x]) (fun _ s₅=>∃m,m < n∧I m s₅) (fun _ _=>False) s₄) (fun _ _=>False) s₃
      else ∃m,m < n∧I m s₃) (fun _ _=>False) s₂) (fun _ _=>False) s₁') (fun _ _=>False) s₁) (fun _ _=>False) s)
  (n:Nat) (h:I n s):
  codeAny (model prog w) A (.compLoop (.ListComp elt [⟨target,iter,ifs,0⟩] scope pos) 0 it acc env) R s:=by
 refine codeAny_loop rfl I (fun n s hI=>?_) n h
 show wpAny _ A ((compTurn (.ListComp elt [⟨target,iter,ifs,0⟩] scope pos) 0 it acc env).onRaise (fun x=>do noteFrame x env;theTreesLotGoes x)) _ _ s
 refine wpAny_noted ?_
 rw[compTurn_list]
 refine zz0 (wpAny_standAt (zz0 (zz2 (turn n s hI) (fun r s₁ h₁=>?_) fun _ _ h'=>h'.elim)))
 cases r with
 |none=>exact zz1 h₁
 |some v=>
  refine zz0 (zz2 h₁ (fun _ s₁' h₁'=>?_) fun _ _ h'=>h'.elim)
  refine zz0 (zz2 h₁' (fun _ s₂ h₂=>zz0 (zz2 h₂ (fun ok s₃ h₃=>?_) fun _ _ h'=>h'.elim)) fun _ _ h'=>h'.elim)
  cases ok with
  |false=>exact zz1 ⟨rfl,h₃⟩
  |true=>
   exact zz0 (zz0 (zz2 h₃ (fun x s₄ h₄=>zz0 (zz2 h₄ (fun _ s₅ h₅=>zz1 (zz1 ⟨rfl,h₅⟩)) fun _ _ h'=>h'.elim)) fun _ _ h'=>h'.elim))
end
def Cx.comp(X:Cx)(sc:Scope)(cl:List (Str×Addr))(N:List Str)(C:Addr)(s₀:Shared)(H₀:Hp)(fp:List Addr):Cx:=
 ⟨X.prog,X.w,X.K,X.mg,X.base,X.A,N,s₀,H₀,⟨sc,C,X.env.globals,cl,X.env.qual,none,X.env.code,X.env.frame,X.env.builtins⟩,X.stack,X.stack,fp,fun _=>false,X.calm,[],fun _ _=>False⟩
def K2(X:Cx)(ifs:List Expr)(t:TT):Prop:=
 ∀(pins:List (Addr×Obj)) (s:Shared) (σ:St) (H:Hp) (Q:Bool→Hp→Prop),Inv X pins σ H s→t σ H Q→
  wpAny (model X.prog X.w) X.A (forIn ifs true fun c r=>if r=true then do let ok ←isTrue c X.env (eval c X.env);pure (ForInStep.yield ok)else pure (ForInStep.yield r)) (TP X pins σ Q) X.xe s
def MA:TT:=fun _ H Q=>Q true H
theorem uY:K2 X [] MA:=fun _ _ _ H _ I h=>wpAny_tests_nil ⟨H,I,h⟩
theorem Gx{c:Expr}{t:TT}(h:PT X c t):K2 X [c] t:=fun pins s σ H Q I q=>wpAny_tests_one (h pins s σ H Q I q)
def slots(js:List (Option Nat))(σ:St):St:=js.map fun j=>j.bind fun j=>(σ[j]?).join
def wA(js:List (Option Nat))(wi:TI)(g:TG)(tt:TT)(te:TE):TE:=fun σ H Q=>wi σ H fun J H1=>∀l,H1 l=none→∃W:Nat→Nat→St→Hp→Prop,(∃m,W 0 m (slots js σ) (fg H1 l (.lst [])))∧
 ∀i m σ' H',W i m σ' H'→(J.stop i H'∧Q (.ref l) H')∨(J.go i H'∧∃N:St→Hp→Prop,(∀σ' H',N σ' H'→∃m',m' < m∧W (i+1) m' σ' H')∧∀x H2,J.yld i H' x H2→g x σ' H2 fun σ3 H3=>tt σ3 H3 fun b H4=>
  if b=true then te σ3 H4 fun y H5=>∃ys,H5 l=some (.lst ys)∧ys.length < sizeLine∧N σ3 (fg H5 l (.lst (ys++[y])))else N σ3 H4)
section
variable {X:Cx} {elt target iter:Expr} {ifs:List Expr} {scope sc:Scope} {cl:List (Str×Addr)} {N:List Str} {pos:Pos} {wi:TI} {g:TG} {tt:TT} {te:TE} {js:List (Option Nat)}
structure CompOk (X:Cx) (scope sc:Scope) (cl:List (Str×Addr)) (N:List Str) (js:List (Option Nat)):Prop where
 clos:closureFor scope X.env=pure cl
 rel:relabel scope X.env=sc
 nocell:∀y∈scope.names,y.2≠ .cell
 kind:scope.kind=.function
 names:∀y∈scope.names,y.2=.local→scope.names.lookup y.1=some .local
 same:∀x c,cl.lookup x=some c→X.env.cells.lookup x=some c
 has:∀x,(sc.names.lookup x=some .cell∨sc.names.lookup x=some .free)→∃c,cl.lookup x=some c
 len:js.length=N.length
 from_:∀(i j:Nat),js[i]? =some (some j)→∃x,N[i]? =some x∧X.N[j]? =some x∧(sc.names.lookup x=some .cell∨sc.names.lookup x=some .free)∧(X.env.kindOf x=some .cell∨X.env.kindOf x=some .free)
theorem wB{use:Option (Value→Sem Unit)}{Qv:Value→Shared→Prop}(K:CompOk X scope sc cl N js)(hc:X.calm=true)(hi:PI X target iter wi)
  (hgg:∀C s₀ H₀ fp,PG (X.comp sc cl N C s₀ H₀ fp) target g) (htt:∀C s₀ H₀ fp,K2 (X.comp sc cl N C s₀ H₀ fp) ifs tt) (hee:∀C s₀ H₀ fp,PE (X.comp sc cl N C s₀ H₀ fp) elt te)
  (hs:∀x,foldedSetIterable iter X.env x=pure x) (pins:List (Addr×Obj)) (s:Shared) (σ:St) (H:Hp) (Q:VK) (I:Inv X pins σ H s) (h:wA js wi g tt te σ H Q)
  (hend:∀(D C:Addr) (H4:Hp) (s5:Shared) (m:Str→Option Value),Inv X pins σ H4 s5→s5.heap.Ns C m→H4 C=none→C≠X.env.locals→C∉X.fs→X.s₀.heap.objs.size≤C→(∀x c,X.env.cells.lookup x=some c→c≠C)→(∀p∈X.pn++pins,p.1≠C)→Q (.ref D) H4→
   compPost (model X.prog X.w) X.A X.xe use Qv (.ref D) C (.ok .next) s5):
  wpAny (model X.prog X.w) X.A (comprehension (.ListComp elt [⟨target,iter,ifs,0⟩] scope pos) scope X.env (firstIterPos [⟨target,iter,ifs,0⟩] pos) (newList []) false (firstIter [⟨target,iter,ifs,0⟩] X.env) use) Qv X.xe s:=by
 refine wpAny_comprehension_free (use:=use) rfl hs K.clos K.kind K.names (fA (hi pins s σ H _ I h) fun v s1 h1=>fA h1 fun itv s2 h2=>?_)
 obtain⟨it,fp,tn,J,H2,e,I2,T,st2,f2,R⟩:=h2
 subst e
 refine wpAny_newObj_type (wpAny_newFunctionEnv K.nocell (by intro y hy;simp at hy) (fun h₁ hns₁ hsb₁=>?_) K.kind)
 dsimp only at hns₁ hsb₁ ⊢
 have I3:Inv X pins σ (fg H2 s2.heap.objs.size (.lst [])) {s2 with heap:=s2.heap.push {cls:=.type "list",dict:=none,data:=.seq ([]:List Value).toArray}}:=
  I2.lnew (t':=s2.toks) (its:=[]) .nil (pT _)
 obtain⟨W,⟨m0,w0⟩,turn⟩:=R s2.heap.objs.size (I2.hok.fresh (gR _))
 generalize hP:s2.heap.push {cls:=.type "list",dict:=none,data:=.seq ([]:List Value).toArray}=h3 at hns₁ hsb₁ I3 ⊢
 generalize hD:s2.heap.objs.size=D at w0 turn I3 ⊢
 have hsz3:h3.objs.size=D+1:=by rw[←hP,zzB,hD]
 have old3:∀b o,s2.heap.get? b=some o→h3.get? b=some o:=fun b o e=>by rw[←hP];exact iB _ e
 have old:∀b o,h3.get? b=some o→h₁.get? b=some o:=fun b o e=>hsb₁.extBut b o (jE (iC e)) (iB _ e)
 have fpD:∀b∈fp,b < D:=fun b hb=>by
  obtain⟨o,e,_⟩:=T.obj _ _ st2 b hb
  rw[←hD];exact iC e
 have frD:∀b∈fp,(fg H2 D (.lst [])) b=none:=fun b hb=>by rw[aM (jE (fpD b hb))];exact(f2 b hb).1
 have f3:∀b∈fp,wq X pins (fg H2 D (.lst [])) b:=fun b hb=>⟨frD b hb,(f2 b hb).2⟩
 have Hfresh:∀a,h3.objs.size≤a→(fg H2 D (.lst [])) a=none:=fun a ha=>I3.hok.fresh ha
 have cellC:∀x c,X.env.cells.lookup x=some c→c < h3.objs.size:=fun x c e=>by
  obtain⟨v,q⟩:=I3.cell x c e
  exact q.lt
 have YOk:(X.comp sc cl N h3.objs.size {s2 with heap:=h3} (fg H2 D (.lst [])) fp).Ok:=by
  refine⟨I3.ok.mod,?_,I3.ok.glob,I3.ok.blt,gR _,fun x y c e1 e2=>I3.ok.inj x y c (K.same x c e1) (K.same y c e2),fun x hx=>K.has x hx,fun x c hf _=>absurd hf (by intro z;cases z),I3.ok.hd,I3.ok.frames,.inl rfl,fun b hb=>⟨?_,fun x c e=>(f2 b hb).2.2.2.2.1 x c (K.same x c e)⟩,
   I3.bs,jS I3.ok.bsz I3.sz,fun b o e hb=>?_,fun b hb hm=>?_,I3.stack,I3.stkFree,I3.tab⟩
  ·rw[←K.rel];exact K.kind
  ·exact jE (by rw[hsz3];exact yP (fpD b hb))
  ·rcases(f2 b hb).2.2.2.1 with z |z
   ·exact I3.ok.noex b o e z
   ·exact absurd (nZ (iC (I3.ok.bs b o e).1) z) (Nat.lt_irrefl _)
  ·rcases Zap.mp (I3.stkSub b hm)with z |z
   ·exact(f2 b hb).2.1 z
   ·exact(f2 b hb).2.2.1 z
 have IY:Inv (X.comp sc cl N h3.objs.size {s2 with heap:=h3} (fg H2 D (.lst [])) fp) [] (slots js σ) (fg H2 D (.lst [])) {s2 with heap:=h₁,toks:=s2.toks+([]:List (Str×Value)).length}:=by
  refine⟨YOk,rfl,I3.bare,Un.kept old,⟨_,hns₁,fun i x v e1 e2 e3=>?_⟩,fun x c e=>?_,Hfresh _ (gR _),fun x c e=>I3.freeC x c (K.same x c e),fun p hp=>absurd (show p∈([]:List (Addr×Obj))from hp) (by simp),I3.hok.kept old,?_⟩
  ·unfold slots at e2
   rw[List.getElem?_map]at e2
   cases ej:js[i]? with
   |none=>rw[ej]at e2;cases e2
   |some jo=>
    rw[ej]at e2
    cases jo with
    |none=>cases e2
    |some j=>
     obtain⟨y,n1,n2,k1,k2⟩:=K.from_ i j ej
     have exy:y=x:=Option.some.inj (n1.symm.trans e1)
     subst exy
     have e2':(σ[j]?).join=some v:=Option.some.inj e2
     have e4:σ[j]? =some (some v):=by
      cases es:σ[j]? with
      |none=>rw[es]at e2';cases e2'
      |some w=>rw[es]at e2';exact congrArg some e2'
     obtain⟨m,_,hl⟩:=I3.loc
     obtain⟨u,ru,lk⟩:=hl j y v n2 e4 (by
      rcases k2 with z |z
      ·exact .inr (.inl z)
      ·exact .inr (.inr z))
     refine⟨u,ru,.inr ⟨k1,?_⟩⟩
     obtain⟨c,hcl⟩:=K.has y k1
     refine⟨c,hcl,?_⟩
     rcases lk with⟨z,_⟩ |⟨_,c',e5,ic⟩
     ·rcases k2 with q |q
      ·rw[q]at z;cases z
      ·rw[q]at z;cases z
     ·have:c'=c:=Option.some.inj (e5.symm.trans (K.same y c hcl))
      subst this
      obtain⟨o,ho,hd⟩:=ic
      exact⟨o,old _ _ ho,hd⟩
  ·obtain⟨v,o,ho,hd⟩:=I3.cell x c (K.same x c e)
   exact⟨v,o,old _ _ ho,hd⟩
  ·unfold slots;rw[c_];exact K.len
 have loop:∀s₃:Shared,s₃={s2 with heap:=h₁,toks:=s2.toks+([]:List (Str×Value)).length}→
   codeAny (model X.prog X.w) X.A (.compLoop (.ListComp elt [⟨target,iter,ifs,0⟩] scope pos) 0 (.ref it) (.ref D) (X.comp sc cl N h3.objs.size {s2 with heap:=h3} (fg H2 D (.lst [])) fp).env)
    (compPost (model X.prog X.w) X.A X.xe use Qv (.ref D) h3.objs.size) s₃:=by
  rintro s₃ rfl
  refine uX (fun n s'=>∃i σ' H',Inv (X.comp sc cl N h3.objs.size {s2 with heap:=h3} (fg H2 D (.lst [])) fp) [] σ' H' s'∧tn i s'.heap∧(∀b∈fp,H' b=none)∧W i n σ' H') ?_ m0
   ⟨0,_,_,IY,T.keep _ _ _ st2 (fun b hb o e=>old b o (old3 b o e)),frD,w0⟩
  rintro n s4 ⟨i,σ4,H4,I4,st4,fr4,w4⟩
  have ff:∀{H':Hp},(∀b∈fp,H' b=none)→∀b∈fp,wq (X.comp sc cl N h3.objs.size {s2 with heap:=h3} (fg H2 D (.lst [])) fp) [] H' b:=fun hn b hb=>
   ⟨hn b hb,(YOk.exf b hb).1,YOk.exfs b hb,.inl hb,(YOk.exf b hb).2,fun p hp=>absurd (show p∈([]:List (Addr×Obj))from hp) (by simp)⟩
  have hg:=hgg h3.objs.size {s2 with heap:=h3} (fg H2 D (.lst [])) fp
  have ht:=htt h3.objs.size {s2 with heap:=h3} (fg H2 D (.lst [])) fp
  have he:=hee h3.objs.size {s2 with heap:=h3} (fg H2 D (.lst [])) fp
  rcases turn i n σ4 H4 w4 with⟨stop,qn⟩ |⟨go,Nx,hN,step⟩
  ·refine fA (T.done (X.comp sc cl N h3.objs.size {s2 with heap:=h3} (fg H2 D (.lst [])) fp) rfl rfl rfl hc i [] s4 σ4 H4 _ I4 (ff fr4) st4 stop) fun r s5 ⟨hr,I5⟩=>?_
   subst hr
   obtain⟨m,hn,_⟩:=I5.loc
   have IX:Inv X pins σ H4 s5:=I3.call' (ch:=fp) I5.os I5.base I5.hok I5.bare fun b hb=>⟨(f3 b hb).2.2.2.1,(f3 b hb).2.1,(f3 b hb).2.2.2.2.1,(f3 b hb).2.2.2.2.2⟩
   exact hend D h3.objs.size H4 s5 m IX hn I5.free (Ne.symm (jE I3.lt)) (I3.nofs (gR _)) I3.sz (fun x c e=>jE (cellC x c e)) (fun p hp=>jE (iC (I3.pin p hp).1)) qn
  ·refine fA (T.item (X.comp sc cl N h3.objs.size {s2 with heap:=h3} (fg H2 D (.lst [])) fp) rfl rfl rfl hc i [] s4 σ4 H4 _ I4 (ff fr4) st4 go) fun r s5 ⟨u,hr,h5⟩=>?_
   subst hr
   refine fA h5 fun _ s6 ⟨x,H6,I6,r6,y6,st6,fr6⟩=>?_
   have I6':=I6.pinned (ff fr6) (T.obj _ _ st6)
   have back:∀{σ7:St} {H7:Hp} {s7:Shared},Inv (X.comp sc cl N h3.objs.size {s2 with heap:=h3} (fg H2 D (.lst [])) fp) ([]++rf fp s6.heap) σ7 H7 s7→
     Inv (X.comp sc cl N h3.objs.size {s2 with heap:=h3} (fg H2 D (.lst [])) fp) [] σ7 H7 s7∧tn (i+1) s7.heap∧∀b∈fp,H7 b=none:=fun {σ7 H7 s7} I7=>
    ⟨I7.unpinned,T.keep _ _ _ st6 fun b hb o e=>(I7.pin (b,o) (wk _ (wk _ (kj hb e)))).1,fun b hb=>by
     obtain⟨o,e,d⟩:=T.obj _ _ st6 b hb
     exact(I7.pin (b,o) (wk _ (wk _ (kj hb e)))).2.1⟩
   refine fA (hg _ s6 σ4 H6 x u _ I6' r6 (step x H6 y6)) fun _ s7 ⟨σ7,H7,I7,q7⟩=>?_
   refine fA (ht _ s7 σ7 H7 _ I7 q7) fun b s8 ⟨H8,I8,q8⟩=>?_
   cases b with
   |false=>
    obtain⟨m',hm,w8⟩:=hN σ7 H8 q8
    obtain⟨J1,J2,J3⟩:=back I8
    exact⟨m',hm,i+1,σ7,H8,J1,J2,J3,w8⟩
   |true=>
    refine fA (he _ s8 σ7 H8 _ I8 q8) fun yv s9 ⟨y,H9,I9,r9,ys,hl,hz,n9⟩=>?_
    obtain⟨m',hm,w9⟩:=hN _ _ n9
    refine fA (tU _ s9 σ7 H9 (.ref D) [y] (.ref D) [yv] (fun v H'=>v=.non∧H'=fg H9 D (.lst (ys++[y]))) I9 rfl (.cons r9 .nil) ⟨D,ys,y,rfl,rfl,hl,hz,rfl,rfl⟩) fun _ sA ⟨_,HA,IA,_,_,eA⟩=>?_
    subst eA
    obtain⟨J1,J2,J3⟩:=back IA
    exact⟨m',hm,i+1,σ7,_,J1,J2,J3,w9⟩
 rw[K.rel]
 exact codeAny_compStart_list (loop _ rfl) (T.self _ 0 _ _ _ (T.keep _ _ _ st2 (fun b hb o e=>old b o (old3 b o e))) (loop _ rfl))
theorem uZ(K:CompOk X scope sc cl N js)(hc:X.calm=true)(hi:PI X target iter wi)
  (hgg:∀C s₀ H₀ fp,PG (X.comp sc cl N C s₀ H₀ fp) target g) (htt:∀C s₀ H₀ fp,K2 (X.comp sc cl N C s₀ H₀ fp) ifs tt) (hee:∀C s₀ H₀ fp,PE (X.comp sc cl N C s₀ H₀ fp) elt te)
  (hs:∀x,foldedSetIterable iter X.env x=pure x:=by intro _;rfl):PE X (.ListComp elt [⟨target,iter,ifs,0⟩] scope pos) (wA js wi g tt te):=by
 intro pins s σ H Q I h
 rw[eval_ListComp]
 refine wB (use:=none) K hc hi hgg htt hee hs pins s σ H Q I h fun D C H4 s5 m IX hn fC nL _ sz nc np qn=>?_
 exact⟨m,hn,fun h' hs'=>⟨.ref D,H4,IX.turned (t':=s5.toks) (it:=C) (fun b o hb e=>(hs'.2 b hb).trans e) fC nL (.inr sz) nc np,rfl,qn⟩⟩
theorem Gy{px spos:Pos}{gx:TG}(K:CompOk X scope sc cl N js)(hc:X.calm=true)(hx:PG X (.Name x px) gx)(hi:PI X target iter wi)
  (hgg:∀C s₀ H₀ fp,PG (X.comp sc cl N C s₀ H₀ fp) target g) (htt:∀C s₀ H₀ fp,K2 (X.comp sc cl N C s₀ H₀ fp) ifs tt) (hee:∀C s₀ H₀ fp,PE (X.comp sc cl N C s₀ H₀ fp) elt te)
  (hs:∀x,foldedSetIterable iter X.env x=pure x:=by intro _;rfl) (hsw:swapsWith (.ListComp elt [⟨target,iter,ifs,0⟩] scope pos) (some (.Name x px)) spos.line X.env=pure true:=by rfl):
  PS X (.Assign [.Name x px] (.ListComp elt [⟨target,iter,ifs,0⟩] scope pos) spos) (Kv (wA js wi g tt te) gx):=by
 intro pins s σ H D I h
 rw[exec_Assign_Name_used _ _ _ _ hsw]
 refine zz0 (wpAny_standAt (zz0 ?_))
 show wpAny _ _ (comprehension (.ListComp elt [⟨target,iter,ifs,0⟩] scope pos) scope X.env (firstIterPos [⟨target,iter,ifs,0⟩] pos) (newList []) false (firstIter [⟨target,iter,ifs,0⟩] X.env) (some (assign (.Name x px) X.env)) >>= fun _=>pure ()) _ _ _
 refine zz0 (zz2 (wB (use:=some (assign (.Name x px) X.env)) (Qv:=fun _ s'=>∃σ' H',Inv X pins σ' H' s'∧D.nx σ' H') K hc hi hgg htt hee hs pins s σ H _ I h fun Dd C H4 s5 m IX hn fC nL nF sz nc np qn=>?_) (fun _ s' ⟨σ',H',I',q'⟩=>zz1 (zz1 ⟨σ',H',I',q'⟩)) fun _ _ e=>e)
 obtain⟨o,es,ep,ho,hd,r⟩:=hn
 have IP:Inv X ((C,o)::pins) σ H4 s5:=IX.pins_of fun p hp=>(Zap.mp hp).elim (fun z=>by subst z;exact⟨ho,fC,nL,nF,fun v z=>by rw[hd]at z;cases z⟩) fun z=>IX.pin p (wk _ z)
 refine zz2 (hx ((C,o)::pins) s5 σ H4 (.ref Dd) (.ref Dd) D.nx IP rfl qn) (fun _ s6 ⟨σ6,H6,I6,q6⟩=>?_) fun _ _ e=>e
 obtain⟨p1,p2,_⟩:=I6.pin (C,o) (wk _ (g_ ..))
 have I7:Inv X pins σ6 H6 s6:=I6.pins_of fun p hp=>I6.pin p (wk _ (gN _ hp))
 exact⟨m,⟨o,es,ep,p1,hd,r⟩,fun h' hs'=>⟨σ6,H6,I7.turned (t':=s6.toks) (it:=C) (fun b o hb e=>(hs'.2 b hb).trans e) p2 nL (.inr sz) nc np,q6⟩⟩
end
end L2
namespace L2
open PySem PySem.Spec PyProof.Rows
theorem eD{N:List Str}(hf:∀x∈scope.names,x.2≠ .free:=by decide+kernel)(hcell:∀x∈scope.names,x.2≠ .cell:=by decide+kernel)
  (hk:scope.kind=.function:=by rfl) (hn:∀y∈scope.names,y.2=.local→scope.names.lookup y.1=some .local:=by decide+kernel) (hl:js.length=N.length:=by rfl) (hj:∀j∈js,j=none:=by decide):CompOk X scope scope [] N js where
 clos:=closureFor_none hf
 rel:=by
  unfold relabel
  have e:(scope.names.map fun(x:Str×NameKind)=>match x with |(n,k)=>if (k ==.free&&X.env.scope.kind ==.function&&X.env.kindOf n == some .cell)then (n,NameKind.cell)else (n,k))=scope.names:=by
   refine map_eq_self fun x hx=>?_
   obtain⟨n,k⟩:=x
   have:(k == NameKind.free)=false:=by simpa using hf _ hx
   simp[this]
  rw[e]
 nocell:=hcell
 kind:=hk
 names:=hn
 same:=fun x c e=>by simp at e
 has:=fun x h=>by
  rcases h with h |h
  ·exact absurd rfl (hcell _ (PySem.mem_of_lookup h))
  ·exact absurd rfl (hf _ (PySem.mem_of_lookup h))
 len:=hl
 from_:=fun i j h=>by
  have:=hj _ (List.mem_of_getElem? h)
  cases this
structure Own (P:Program) (w:World) (K:Frag) (mg:Str→Option Value) (base:Heap) (k:Nat) (x:Str) (ps:List Str) (sp:Sp):Prop where
 ex:∃(f:Addr) (fd:FuncData),FnOk P w K mg base yR k f fd ps sp∧Binds K fd ps []∧mg x=some (.ref f)∧keepIn K (.ref f)=true
theorem Ji{pos:Pos}{es:List Expr}{t:TA}(D:Own X.prog X.w X.K X.mg X.base k x ps sp)(hr:Room k X.A)(hg:Gl X x)(ha:PA X (e::es) t)
  (hdb:(x == ("__debug__":Str))=false:=by decide) (he:starEach (e::es) X.env=(false,eval e X.env)::starEach es X.env:=by rfl) (hpl:(backTo pos (starEach es X.env)).any (·.1)=false:=by rfl):
  PE X (.Call (.Name x p) (e::es) [] pos) (DG sp [] E0 t):=by
 obtain⟨f,fd,F,b,m,kp⟩:=D.ex
 exact Gn F hr hg m kp b .nil KW ha hdb he hpl
structure Def (K:Frag) (mg:Str→Option Value) (x:Str) (st:Stmt) (ps:List Str):Prop where
 ex:∃(f:Addr) (fd:FuncData),Fun K x x st f fd∧mg x=some (.ref f)∧Binds K fd ps []
theorem Def.own{w:World}{K:Frag}{mg:Str→Option Value}{base:Heap}{N:List Str}(D:Def K mg x st ps)(S:FnScope N ps (aq st))
  (len:∀vs H Q E,sp vs H Q E→vs.length=ps.length)
  (hbody:∀(f:Addr) (cdv:Value) (A:Around) (outer:List Env) (s:Shared) (H:Hp) (vs:List V) (Q:VK) (E:XK),Room k (A.deeper (envOfC x (aq st) s.heap.objs.size f cdv))→sp vs H Q E→
   ∃t,PSs (kl yR P w K mg base N x (aq st) f cdv A outer s H E).nox (bI st) t∧t {nx:=fun _ H'=>Q .non H',rt:=Q} (iL N vs) H):Own P w K mg base (k+1) x ps sp:=by
 obtain⟨f,fd,F,m,b⟩:=D.ex
 exact⟨f,fd,F.ok S len (hbody f),b,m,F.kp⟩
theorem Jj{K:Frag}{mg:Str→Option Value}{f:Addr}{od:Option Addr}{kV ct:Value}(X:K.In h)(G:h.Ns mainGlobals mg)
  (a:nsIn K mainGlobals x=some (some (.ref f))) (l:K.lookup f=some ⟨oc,od,.func (fnOf x x (dw st) (bI st) (aq st) .none kV doc pm an cdv ct),osl⟩)
  (c:codeIn K cdv x=true) (k:keepIn K (.ref f)=true)
  (b:∀(kV doc pm:Value) (an:Option Addr) (cdv ct:Value) (us:List Value),us.length=ps.length→bindArgs (fnOf x x (dw st) (bI st) (aq st) .none kV doc pm an cdv ct) ⟨us,[]⟩=pure (ps.zip us)):Def K mg x st ps:=
 ⟨f,_,zG l c k,mg_of X G a,(zG (st:=st) l c k).binds b⟩
end L2
namespace Nh
open PySem L2
section
variable {α β:Type} {F:α→β→Prop}
theorem l_:∀{a:List α} {b:List β} {c:List α} {d:List β},Paired F a b→Paired F c d→Paired F (a++c) (b++d)
 |_,_,_,_,.nil,s=>s
 |_,_,_,_,.cons r t,s=>.cons r (l_ t s)
theorem AH:∀{a:List α} {b:List β} (n:Nat),Paired F a b→Paired F (a.take n) (b.take n)
 |_,_,0,_=>.nil
 |_,_,_+1,.nil=>.nil
 |_,_,n+1,.cons r t=>.cons r (AH n t)
theorem AI:∀{a:List α} {b:List β} (n:Nat),Paired F a b→Paired F (a.drop n) (b.drop n)
 |_,_,0,r=>r
 |_,_,_+1,.nil=>.nil
 |_,_,n+1,.cons _ t=>AI n t
theorem m4:∀{a:List α} {b:List β},Paired F a b→Paired F a.reverse b.reverse
 |_,_,.nil=>.nil
 |_,_,.cons r t=>by
  rw[Av,Av]
  exact l_ (m4 t) (.cons r .nil)
theorem AJ:∀{a:List α} {b:List β} {i:Nat} {y:β},Paired F a b→b[i]? =some y→∃x,a[i]? =some x∧F x y
 |_,_,_,_,.nil,e=>by simp at e
 |_,_,0,_,.cons r _,e=>by simp at e;subst e;exact⟨_,rfl,r⟩
 |_,_,i+1,x,.cons _ t,e=>by
  obtain⟨u,h1,h2⟩:=AJ (i:=i) (y:=x) t (by simpa using e)
  exact⟨u,by simpa using h1,h2⟩
theorem DQ{a:List α}{b:List β}(h:Paired F a b):∀k:Nat,Paired F (List.replicate k a).flatten (List.replicate k b).flatten
 | 0=>.nil
 |k+1=>by
  rw[List.replicate_succ,List.replicate_succ,List.flatten_cons,List.flatten_cons]
  exact l_ h (DQ h k)
end
abbrev Pc:=Nat×Int
def av(p:Pc):PyData:=.tuple [.str ⟨#[p.1]⟩,.int p.2]
def oa(c:List Pc):PyData:=.list (c.map av)
def NailsOk(c:List Pc):Prop:=∀p∈c,p.1 < 128
theorem K3{p:Pc}(h:p.1 < 128):(av p).canLay0=true:=by
 have:p.1 < 1114112:=by omega
 simp[av,PyData.canLay0,PyData.canLayAll0,PyData.strOk,this]
theorem wC:∀{c:List Pc},NailsOk c→PyData.canLayAll0 (c.map av)=true∧PyData.depthAll (c.map av)≤1
 |[],_=>by simp[PyData.canLayAll0,PyData.depthAll]
 |p::c,h=>by
  have ih:=wC (c:=c) fun q hq=>h q (gN _ hq)
  have h1:=K3 (h p (g_ ..))
  have h2:=ih.2
  simp only[eR,PyData.canLayAll0,PyData.depthAll,h1,ih.1,Bool.and_self,true_and]
  have h3:(av p).depth=1:=by simp[av,PyData.depth,PyData.depthAll]
  omega
theorem pV{c:List Pc}(h:NailsOk c):SeqAt.shaped (oa c)=true:=by
 have q:=wC h
 have q2:=q.2
 unfold SeqAt.shaped
 simp only[oa,PyData.canLay0,PyData.depth,q.1,Bool.true_and]
 exact zz4 (by omega)
theorem Jk(p q:Pc):PyData.eqv (av p) (av q)=decide (p=q):=by
 obtain⟨n,a⟩:=p
 obtain⟨m,b⟩:=q
 simp only[av,PyData.eqv,PyData.eqvAll,Bool.and_true]
 rw[Bool.eq_iff_iff]
 simp
theorem tW:∀c d:List Pc,PyData.eqvAll (c.map av) (d.map av)=decide (c=d)
 |[],[]=>by simp[PyData.eqvAll]
 |[],_::_=>by simp[PyData.eqvAll]
 |_::_,[]=>by simp[PyData.eqvAll]
 |p::c,q::d=>by
  simp only[eR,PyData.eqvAll,Jk,tW c d]
  rw[Bool.eq_iff_iff]
  simp
theorem DR(c d:List Pc):PyData.eqv (oa c) (oa d)=decide (c=d):=by
 simp only[oa,PyData.eqv,tW]
end Nh
variable {c:List Nh.Pc}
namespace PL
open PySem PySem.Spec PyProof.Rows L2 Nh
def MB:lh→PyData
 |.inl i=>.int i
 |.inr x=>.str x
def jX(a C:Addr):Heap→Prop:=fun h=>∃o,h.get? a=some o∧o.cls=.ref C
mutual
inductive Rp (K:Frag) (H:Hp):V→PyData→Prop
 |non:Rp K H .non .none
 |bl (b:Bool):Rp K H (.bl b) (.bool b)
 |int (i:Int):Rp K H (.int i) (.int i)
 |str (x:Str):Rp K H (.str x) (.str x)
 |lst {a:Addr} {xs:List V} {ds:List PyData}:SqL K H a xs→RpA K H xs ds→Rp K H (.ref a) (.list ds)
 |tup {a:Addr} {xs:List V} {ds:List PyData}:SqT K H a xs→RpA K H xs ds→Rp K H (.ref a) (.tuple ds)
 |dct {a:Addr} {us:List (lh×V)} {kvs:List (PyData×PyData)}:Rd H a (.dK us)→RpK K H us kvs→Rp K H (.ref a) (.dict kvs)
 |exc {a C:Addr} {n:Str}:H a=some (.ext (jX a C))→nsIn K mainGlobals n=some (some (.ref C))→Rp K H (.ref a) (.dict [(.none,.str n)])
inductive RpA (K:Frag) (H:Hp):List V→List PyData→Prop
 |nil:RpA K H [] []
 |cons {x:V} {xs:List V} {d:PyData} {ds:List PyData}:Rp K H x d→RpA K H xs ds→RpA K H (x::xs) (d::ds)
inductive RpK (K:Frag) (H:Hp):List (lh×V)→List (PyData×PyData)→Prop
 |nil:RpK K H [] []
 |cons {k:lh} {x:V} {us:List (lh×V)} {d:PyData} {kvs:List (PyData×PyData)}:Rp K H x d→RpK K H us kvs→RpK K H ((k,x)::us) ((MB k,d)::kvs)
end
mutual
def fO:PyData→Bool
 |.none=>true
 |.bool _=>true
 |.int _=>true
 |.str _=>true
 |.list _=>false
 |.tuple xs=>bg xs
 |.dict _=>false
def bg:List PyData→Bool
 |[]=>true
 |d::ds=>fO d&&bg ds
end
def HW:HO→Bool
 |.tup _=>true
 |.frz _ _=>true
 |_=>false
def tups(H:Hp):Hp:=fun b=>(H b).filter HW
theorem oX(H:Hp):Same (tups H) H:=fun b o h=>(Option.filter_eq_some_iff.mp h).1
theorem og{H:Hp}{b:Addr}(h:H b=some o)(c:HW o=true):tups H b=some o:=Option.filter_eq_some_iff.mpr ⟨h,c⟩
theorem wD{H:Hp}{l:Addr}{ys:List V}(h:H l=some (.lst xs)):tups (fg H l (.lst ys))=tups H:=by
 funext b
 unfold tups
 by_cases e:b=l
 ·subst e
  rw[ce,h]
  rfl
 ·rw[aM e]
section
variable {K:Frag} {H H':Hp}
theorem wE(h:SqT K H a xs):SqT K (tups H) a xs:=by
 rcases h with(h |⟨o,h⟩) |h
 ·exact .inl (.inl (og h rfl))
 ·exact .inl (.inr ⟨o,og h rfl⟩)
 ·exact .inr h
theorem u0{u:HO}(s:Same H H')(h:Rd H a u):Rd H' a u:=by
 rcases h with h |⟨o,h⟩
 ·exact .inl (s _ _ h)
 ·exact .inr ⟨o,s _ _ h⟩
theorem Rp.same(s:Same H H'){v:V}(h:Rp K H v d):Rp K H' v d:=Rp.rec (motive_1:=fun v d _=>Rp K H' v d) (motive_2:=fun v d _=>RpA K H' v d) (motive_3:=fun v d _=>RpK K H' v d) .non .bl .int .str (fun h _ r=>.lst (s.seq h) r) (fun h _ r=>.tup (s.tup h) r) (fun h _ r=>.dct (u0 s h) r) (fun h r=>.exc (s _ _ h) r) .nil (fun _ _ a b=>.cons a b) .nil (fun _ _ a b=>.cons a b) h
theorem RpA.same(s:Same H H'){v:List V}{d:List PyData}(h:RpA K H v d):RpA K H' v d:=RpA.rec (motive_1:=fun v d _=>Rp K H' v d) (motive_2:=fun v d _=>RpA K H' v d) (motive_3:=fun v d _=>RpK K H' v d) .non .bl .int .str (fun h _ r=>.lst (s.seq h) r) (fun h _ r=>.tup (s.tup h) r) (fun h _ r=>.dct (u0 s h) r) (fun h r=>.exc (s _ _ h) r) .nil (fun _ _ a b=>.cons a b) .nil (fun _ _ a b=>.cons a b) h
theorem RpK.same(s:Same H H'){v:List (lh×V)}{d:List (PyData×PyData)}(h:RpK K H v d):RpK K H' v d:=RpK.rec (motive_1:=fun v d _=>Rp K H' v d) (motive_2:=fun v d _=>RpA K H' v d) (motive_3:=fun v d _=>RpK K H' v d) .non .bl .int .str (fun h _ r=>.lst (s.seq h) r) (fun h _ r=>.tup (s.tup h) r) (fun h _ r=>.dct (u0 s h) r) (fun h r=>.exc (s _ _ h) r) .nil (fun _ _ a b=>.cons a b) .nil (fun _ _ a b=>.cons a b) h
theorem Rp.cold{v:V}(h:Rp K H v d)(e:fO d=true):Rp K (tups H) v d:=Rp.rec (motive_1:=fun v d _=>fO d=true→Rp K (tups H) v d) (motive_2:=fun v d _=>bg d=true→RpA K (tups H) v d) (motive_3:=fun _ _ _=>True) (fun _=>.non) (fun b _=>.bl b) (fun i _=>.int i) (fun x _=>.str x) (fun _ _ _ e=>nomatch e) (fun h _ r e=>.tup (wE h) (r e)) (fun _ _ _ e=>nomatch e) (fun _ _ e=>nomatch e) (fun _=>.nil) (fun _ _ a b e=>.cons (a (Bool.and_eq_true_iff.mp e).1) (b (Bool.and_eq_true_iff.mp e).2)) trivial (fun _ _ _ _=>trivial) h e
theorem RpA.cold{v:List V}{d:List PyData}(h:RpA K H v d)(e:bg d=true):RpA K (tups H) v d:=RpA.rec (motive_1:=fun v d _=>fO d=true→Rp K (tups H) v d) (motive_2:=fun v d _=>bg d=true→RpA K (tups H) v d) (motive_3:=fun _ _ _=>True) (fun _=>.non) (fun b _=>.bl b) (fun i _=>.int i) (fun x _=>.str x) (fun _ _ _ e=>nomatch e) (fun h _ r e=>.tup (wE h) (r e)) (fun _ _ _ e=>nomatch e) (fun _ _ e=>nomatch e) (fun _=>.nil) (fun _ _ a b e=>.cons (a (Bool.and_eq_true_iff.mp e).1) (b (Bool.and_eq_true_iff.mp e).2)) trivial (fun _ _ _ _=>trivial) h e
theorem Rp.dof'{v:V}(h:Rp K H v d)(e:d.canLay0=true):DOf K H v d:=Rp.rec (motive_1:=fun v d _=>d.canLay0=true→DOf K H v d) (motive_2:=fun v d _=>PyData.canLayAll0 d=true→DAll K H v d) (motive_3:=fun _ _ _=>True) (fun _=>.non) (fun b _=>.bl b) (fun i _=>.int i) (fun x _=>.str x) (fun h _ r e=>.lst h (r e)) (fun h _ r e=>.tup h (r e)) (fun _ _ _ e=>nomatch e) (fun _ _ e=>nomatch e) (fun _=>.nil) (fun _ _ a b e=>.cons (a (Bool.and_eq_true_iff.mp e).1) (b (Bool.and_eq_true_iff.mp e).2)) trivial (fun _ _ _ _=>trivial) h e
theorem Rp.dof{v:V}(h:Rp K H v d)(e:SeqAt.shaped d=true):DOf K H v d:=h.dof' (SeqAt.canLay_of_shaped e)
theorem RpA.pr{vs:List V}(h:RpA K H vs ds):Paired (Rp K H) vs ds:=RpA.rec (motive_1:=fun _ _ _=>True) (motive_2:=fun v d _=>Paired (Rp K H) v d) (motive_3:=fun _ _ _=>True) trivial (fun _=>trivial) (fun _=>trivial) (fun _=>trivial) (fun _ _ _=>trivial) (fun _ _ _=>trivial) (fun _ _ _=>trivial) (fun _ _=>trivial) .nil (fun h _ _ b=>.cons h b) trivial (fun _ _ _ _=>trivial) h
theorem RpA.of{vs:List V}(h:Paired (Rp K H) vs ds):RpA K H vs ds:=by
 induction h with
 |nil=>exact .nil
 |cons a _ b=>exact .cons a b
theorem RpA.len{vs:List V}(h:RpA K H vs ds):vs.length=ds.length:=Paired.length h.pr
theorem RpA.append{vs us:List V}{es:List PyData}(h:RpA K H vs ds)(k:RpA K H us es):RpA K H (vs++us) (ds++es):=.of (l_ h.pr k.pr)
theorem RpA.take{vs:List V}(n:Nat)(h:RpA K H vs ds):RpA K H (vs.take n) (ds.take n):=.of (AH n h.pr)
theorem RpA.drop{vs:List V}(n:Nat)(h:RpA K H vs ds):RpA K H (vs.drop n) (ds.drop n):=.of (AI n h.pr)
theorem RpA.rev{vs:List V}(h:RpA K H vs ds):RpA K H vs.reverse ds.reverse:=.of (m4 h.pr)
theorem RpA.rep{vs:List V}(n:Nat)(h:RpA K H vs ds):RpA K H (List.replicate n vs).flatten (List.replicate n ds).flatten:=.of (DQ h.pr n)
theorem RpA.get{vs:List V}{i:Nat}(h:RpA K H vs ds)(e:ds[i]? =some d):∃v,vs[i]? =some v∧Rp K H v d:=AJ h.pr e
theorem RpA.dropLast{vs:List V}(h:RpA K H vs ds):RpA K H vs.dropLast ds.dropLast:=by
 rw[List.dropLast_eq_take,List.dropLast_eq_take,h.len]
 exact h.take _
theorem RpA.snoc{vs:List V}{v:V}(h:RpA K H vs ds)(k:Rp K H v d):RpA K H (vs++[v]) (ds++[d]):=h.append (.cons k .nil)
end
inductive Pt where
 |fl (d:PyData) |ol (ds:List PyData)
def Pt.val:Pt→PyData
 |.fl d=>d
 |.ol ds=>.list ds
inductive Sl where
 /-- nothing is known -/
 |no
 /-- never written again -/
 |sh (d:PyData)
 /-- a list of one's own -/
 |ow (ds:List PyData)
 /-- a dict of one's own,its values lists of one's own -/
 |od (kvs:List (lh×List PyData))
 /-- a tuple with lists of one's own -/
 |tx (ps:List Pt)
 /-- (a part of an expression) the value of a name -/
 |al (i:Nat)
 /-- (a part of an expression) as it stands just now -/
 |br (d:PyData)
def PtsOk(K:Frag)(F H:Hp):List V→List Pt→List Addr→Prop
 |[],[],A=>A=[]
 |v::vs,.fl d::ps,A=>Rp K F v d∧PtsOk K F H vs ps A
 |v::vs,.ol ds::ps,A=>∃l us A',v=.ref l∧A=l::A'∧H l=some (.lst us)∧RpA K F us ds∧PtsOk K F H vs ps A'
 |_,_,_=>False
def DlOk(K:Frag)(F H:Hp):List (lh×V)→List (lh×List PyData)→List Addr→Prop
 |[],[],A=>A=[]
 |p::us,q::kvs,A=>∃l vs A',p=(q.1,.ref l)∧A=l::A'∧H l=some (.lst vs)∧RpA K F vs q.2∧DlOk K F H us kvs A'
 |_,_,_=>False
def SlOk(K:Frag)(F H:Hp)(σ:L2.St)(o:Option V):Sl→List Addr→Prop
 |.no,A=>A=[]
 |.sh d,A=>A=[]∧∃v,o=some v∧Rp K F v d
 |.ow ds,A=>∃l vs,o=some (.ref l)∧A=[l]∧H l=some (.lst vs)∧RpA K F vs ds
 |.od kvs,A=>∃l us A',o=some (.ref l)∧A=l::A'∧H l=some (.dK us)∧DlOk K F H us kvs A'
 |.tx ps,A=>∃t vs,o=some (.ref t)∧F t=some (.tup vs)∧PtsOk K F H vs ps A
 |.al i,A=>A=[]∧∃v,o=some v∧σ[i]? =some (some v)
 |.br d,A=>A=[]∧∃v,o=some v∧Rp K H v d
def Sl.isBr:Sl→Bool
 |.br _=>true
 |_=>false
def Sl.isAl:Sl→Bool
 |.al _=>true
 |.br _=>true
 |_=>false
section
variable {K:Frag} {F F' H H':Hp} {σ σ':L2.St}
theorem PtsOk.stay(s:Same F F'):∀{vs:List V} {ps:List Pt} {A:List Addr},(∀b∈A,H' b=H b)→PtsOk K F H vs ps A→PtsOk K F' H' vs ps A
 |[],[],A,_,h=>h
 |v::vs,.fl d::ps,A,e,h=>⟨h.1.same s,PtsOk.stay s e h.2⟩
 |v::vs,.ol ds::ps,A,e,h=>by
  obtain⟨l,us,A',rfl,rfl,hl,hr,q⟩:=h
  exact⟨l,us,A',rfl,rfl,(e l (g_ ..)).trans hl,hr.same s,q.stay s fun b hb=>e b (gN _ hb)⟩
 |[],_::_,_,_,h=>False.elim h
 |_::_,[],_,_,h=>False.elim h
theorem DlOk.stay(s:Same F F'):∀{us:List (lh×V)} {kvs:List (lh×List PyData)} {A:List Addr},(∀b∈A,H' b=H b)→DlOk K F H us kvs A→DlOk K F' H' us kvs A
 |[],[],A,_,h=>h
 |p::us,q::kvs,A,e,h=>by
  obtain⟨l,vs,A',rfl,rfl,hl,hr,k⟩:=h
  exact⟨l,vs,A',rfl,rfl,(e l (g_ ..)).trans hl,hr.same s,k.stay s fun b hb=>e b (gN _ hb)⟩
 |[],_::_,_,_,h=>False.elim h
 |_::_,[],_,_,h=>False.elim h
theorem DlOk.some:∀{us:List (lh×V)} {kvs:List (lh×List PyData)} {A:List Addr},DlOk K F H us kvs A→∀a∈A,∃vs,H a=some (.lst vs)
 |[],[],A,h,a,ha=>by rw[show A=[]from h]at ha;cases ha
 |p::us,q::kvs,A,h,a,ha=>by
  obtain⟨l,vs,A',rfl,rfl,hl,hr,k⟩:=h
  rcases Zap.mp ha with e |e
  ·subst e;exact⟨vs,hl⟩
  ·exact k.some a e
 |[],_::_,_,h,_,_=>False.elim h
 |_::_,[],_,h,_,_=>False.elim h
theorem PtsOk.some:∀{vs:List V} {ps:List Pt} {A:List Addr},PtsOk K F H vs ps A→∀a∈A,∃us,H a=some (.lst us)
 |[],[],A,h,a,ha=>by rw[show A=[]from h]at ha;cases ha
 |v::vs,.fl d::ps,A,h,a,ha=>PtsOk.some h.2 a ha
 |v::vs,.ol ds::ps,A,h,a,ha=>by
  obtain⟨l,us,A',rfl,rfl,hl,hr,q⟩:=h
  rcases Zap.mp ha with e |e
  ·subst e;exact⟨us,hl⟩
  ·exact q.some a e
 |[],_::_,_,h,_,_=>False.elim h
 |_::_,[],_,h,_,_=>False.elim h
theorem PtsOk.rp(s:Same F H):∀{vs:List V} {ps:List Pt} {A:List Addr},PtsOk K F H vs ps A→RpA K H vs (ps.map Pt.val)
 |[],[],A,_=>.nil
 |v::vs,.fl d::ps,A,h=>.cons (h.1.same s) (PtsOk.rp s h.2)
 |v::vs,.ol ds::ps,A,h=>by
  obtain⟨l,us,A',rfl,rfl,hl,hr,q⟩:=h
  exact .cons (.lst (SqL.of hl) (hr.same s)) (q.rp s)
 |[],_::_,_,h=>False.elim h
 |_::_,[],_,h=>False.elim h
theorem SlOk.stay{o:Option V}{s:Sl}{A:List Addr}(hF:Same F F')(e:∀b∈A,H' b=H b)(hb:s.isBr=true→Same H H')(h:SlOk K F H σ o s A):SlOk K F' H' σ o s A:=by
 cases s with
 |no=>exact h
 |sh d=>obtain⟨rfl,v,rfl,r⟩:=h;exact⟨rfl,v,rfl,r.same hF⟩
 |ow ds=>obtain⟨l,vs,rfl,rfl,hl,r⟩:=h;exact⟨l,vs,rfl,rfl,(e l (by simp)).trans hl,r.same hF⟩
 |od kvs=>obtain⟨l,us,A',rfl,rfl,hl,r⟩:=h;exact⟨l,us,A',rfl,rfl,(e l (by simp)).trans hl,r.stay hF fun b hb=>e b (gN _ hb)⟩
 |tx ps=>obtain⟨t,vs,rfl,ht,r⟩:=h;exact⟨t,vs,rfl,hF _ _ ht,r.stay hF e⟩
 |al i=>exact h
 |br d=>obtain⟨rfl,v,rfl,r⟩:=h;exact⟨rfl,v,rfl,r.same (hb rfl)⟩
theorem SlOk.mut{o:Option V}{s:Sl}{A:List Addr}(h:SlOk K F H σ o s A):∀a∈A,(∃us,H a=some (.lst us))∨∃us,H a=some (.dK us):=by
 cases s with
 |no=>intro a ha;rw[show A=[]from h]at ha;cases ha
 |sh d=>obtain⟨rfl,_⟩:=h;intro a ha;cases ha
 |ow ds=>obtain⟨l,vs,rfl,rfl,hl,r⟩:=h;intro a ha;rw[Zaf.mp ha];exact .inl ⟨_,hl⟩
 |od kvs=>
  obtain⟨l,vs,A',rfl,rfl,hl,r⟩:=h
  intro a ha
  rcases Zap.mp ha with z |z
  ·rw[z];exact .inr ⟨_,hl⟩
  ·exact .inl (r.some a z)
 |tx ps=>obtain⟨t,vs,rfl,ht,r⟩:=h;exact fun a ha=>.inl (r.some a ha)
 |al i=>obtain⟨rfl,_⟩:=h;intro a ha;cases ha
 |br d=>obtain⟨rfl,_⟩:=h;intro a ha;cases ha
end
inductive SAll (P:Option V→Sl→List Addr→Prop):List (Option V)→List Sl→List Addr→Prop
 |nil:SAll P [] [] []
 |cons {o:Option V} {s:Sl} {A:List Addr} {os:List (Option V)} {ss:List Sl} {B:List Addr}:P o s A→SAll P os ss B→SAll P (o::os) (s::ss) (A++B)
section
variable {P P':Option V→Sl→List Addr→Prop}
theorem SAll.len{os:List (Option V)}{ss:List Sl}{A:List Addr}(h:SAll P os ss A):os.length=ss.length:=by
 induction h with
 |nil=>rfl
 |cons _ _ b=>exact congrArg (· +1) b
theorem SAll.mono{os:List (Option V)}{ss:List Sl}{A:List Addr}(h:SAll P os ss A):(∀o s B,s∈ss→(∀b∈B,b∈A)→P o s B→P' o s B)→SAll P' os ss A:=by
 induction h with
 |nil=>exact fun _=>.nil
 |cons h _ r=>exact fun f=>.cons (f _ _ _ (g_ ..) (fun b hb=>List.mem_append_left _ hb) h) (r fun o s B hs hB q=>f o s B (gN _ hs) (fun b hb=>wk _ (hB b hb)) q)
theorem SAll.all{R:Addr→Prop}(hR:∀o s B,P o s B→∀b∈B,R b){os:List (Option V)}{ss:List Sl}{A:List Addr}(h:SAll P os ss A):∀a∈A,R a:=by
 induction h with
 |nil=>exact fun _ ha=>nomatch ha
 |cons h _ r=>exact fun a ha=>(Zai.mp ha).elim (hR _ _ _ h a) (r a)
theorem SAll.at:∀{os:List (Option V)} {ss:List Sl} {A:List Addr} {k:Nat} {s:Sl},SAll P os ss A→ss[k]? =some s→
  ∃o A0 A1 A2,A=A0++(A1++A2)∧os[k]? =some o∧P o s A1∧∀(P':Option V→Sl→List Addr→Prop) (o':Option V) (s':Sl) (A1':List Addr),P' o' s' A1'→
   (∀o s B,s∈ss→(∀b∈B,b∈A0∨b∈A2)→P o s B→P' o s B)→SAll P' (os.set k o') (ss.set k s') (A0++(A1'++A2))
 |_,_,_,_,_,.nil,e=>by simp at e
 |_,_,_,0,s,.cons (o:=o) (A:=A) (B:=B) h r,e=>by
  simp at e;subst e
  refine⟨o,[],A,B,by simp,rfl,h,fun P' o' s' A1' h' f=>?_⟩
  have z:SAll P' _ _ (A1'++B):=.cons h' (r.mono (P':=P') fun o s B hs hB q=>f o s B (gN _ hs) (fun b hb=>.inr (hB b hb)) q)
  exact z
 |_,_,_,k+1,s,.cons (o:=o) (A:=A) (B:=B) h r,e=>by
  obtain⟨o2,A0,A1,A2,eA,eo,hp,f⟩:=r.at (k:=k) (s:=s) (by simpa using e)
  subst eA
  refine⟨o2,A++A0,A1,A2,by simp,by simpa using eo,hp,fun P' o' s' A1' h' g=>?_⟩
  have z:=f P' o' s' A1' h' fun o s B hs hB q=>g o s B (gN _ hs) (fun b hb=>(hB b hb).imp (fun x=>wk _ x) id) q
  rw[n8]
  exact .cons (g _ _ _ (g_ ..) (fun b hb=>.inl (List.mem_append_left _ hb)) h) z
end
end PL
variable {E ss Xs E1 E2:List Sl} {s1 s2:Sl}
namespace PL
open PySem L2 Nh
abbrev Sg:=L2.St
structure FrF (K:Frag) (B F:Hp) (A:List Addr) (σ:Sg) (H:Hp) (E:List Sl) (xs:List V) (Xs:List Sl):Prop where
 bf:Same B F
 fh:Same F H
 tf:Same (tups H) F
 sl:SAll (SlOk K F H σ) (xs.map some++σ) (Xs++E) A
 nd:A.Nodup
 fr:∀a∈A,F a=none
 len:xs.length=Xs.length
 pl:∀s∈E,s.isAl=false
def Frm(K:Frag)(B:Hp)(σ:Sg)(H:Hp)(E:List Sl)(xs:List V)(Xs:List Sl):Prop:=∃F A,FrF K B F A σ H E xs Xs
def Sl.val:Sl→Option PyData
 |.sh d=>some d
 |.ow ds=>some (.list ds)
 |.tx ps=>some (.tuple (ps.map Pt.val))
 |.br d=>some d
 |_=>none
def look(E:List Sl):Sl→Option PyData
 |.al i=>(E[i]?).bind Sl.val
 |s=>s.val
def tB:Sl→Bool
 |.br _=>true
 |.tx _=>true
 |_=>false
def oh(E:List Sl):Sl→Bool
 |.al i=>(E[i]?).any tB
 |s=>tB s
def RpF(K:Frag)(F H:Hp)(v:V):PyData→Prop
 |.list ds=>∃a vs,v=.ref a∧SqL K H a vs∧RpA K F vs ds
 |d=>Rp K F v d
def wF(F H:Hp)(A:List Addr):Hp:=fun b=>if b∈A then H b else F b
theorem u4{H:Hp}{A:List Addr}{b:Addr}(h:b∈A):wF F H A b=H b:=if_pos h
theorem rA{H:Hp}{A:List Addr}{b:Addr}(h:b∉A):wF F H A b=F b:=if_neg h
section
variable {K:Frag} {B F:Hp} {A:List Addr} {σ:Sg} {H:Hp} {E:List Sl} {xs:List V} {Xs:List Sl} {v:V} {s:Sl} {d:PyData}
theorem RpF.of(h:Rp K F v d)(s:Same F H):RpF K F H v d:=by
 cases h with
 |lst h r=>exact⟨_,_,rfl,s.seq h,r⟩
 |non=>exact .non
 |bl b=>exact .bl b
 |int i=>exact .int i
 |str x=>exact .str x
 |tup h r=>exact .tup h r
 |dct h r=>exact .dct h r
 |exc h r=>exact .exc h r
theorem SlOk.val{o:Option V}{A1:List Addr}(h:SlOk K F H σ o s A1)(hF:Same F H)(e:s.val=some d):∃v,o=some v∧Rp K H v d∧(tB s=false→RpF K F H v d):=by
 cases s with
 |no=>cases e
 |sh d'=>
  obtain⟨rfl,v,rfl,r⟩:=h
  cases e
  exact⟨v,rfl,r.same hF,fun _=>RpF.of r hF⟩
 |ow ds=>
  obtain⟨l,vs,rfl,rfl,hl,r⟩:=h
  cases e
  exact⟨_,rfl,.lst (SqL.of hl) (r.same hF),fun _=>⟨_,_,rfl,SqL.of hl,r⟩⟩
 |od kvs=>cases e
 |tx ps=>
  obtain⟨t,vs,rfl,ht,r⟩:=h
  cases e
  exact⟨_,rfl,.tup (SqT.of (hF _ _ ht)) (r.rp hF),fun z=>by cases z⟩
 |al i=>cases e
 |br d'=>
  obtain⟨rfl,v,rfl,r⟩:=h
  cases e
  exact⟨v,rfl,r,fun z=>by cases z⟩
theorem FrF.slen(h:FrF K B F A σ H E xs Xs):σ.length=E.length:=by
 have e:=h.sl.len
 have:=h.len
 simp only[iK,c_]at e
 omega
theorem FrF.var{i:Nat}(h:FrF K B F A σ H E xs Xs)(e:E[i]? =some s):∃o A1,σ[i]? =some o∧SlOk K F H σ o s A1:=by
 obtain⟨o,A0,A1,A2,eA,eo,hp,_⟩:=h.sl.at (k:=Xs.length+i) (s:=s) (by rw[FZ (by omega)];simpa using e)
 rw[FZ (by rw[c_,h.len];omega),c_,h.len,Dq]at eo
 exact⟨o,A1,eo,hp⟩
theorem FrF.ext(h:FrF K B F A σ H E xs Xs)(e:Xs[k]? =some s):∃v A1,xs[k]? =some v∧SlOk K F H σ (some v) s A1:=by
 have hk:k < Xs.length:=(Zbi.mp e).1
 obtain⟨o,A0,A1,A2,eA,eo,hp,_⟩:=h.sl.at (k:=k) (s:=s) (by rw[List.getElem?_append_left hk];exact e)
 rw[List.getElem?_append_left (by rw[c_,h.len];omega),List.getElem?_map]at eo
 cases q:xs[k]? with
 |none=>rw[q]at eo;cases eo
 |some v=>rw[q]at eo;cases eo;exact⟨v,A1,rfl,hp⟩
theorem FrF.look(h:FrF K B F A σ H E xs Xs)(e:Xs[k]? =some s)(q:look E s=some d):∃v,xs[k]? =some v∧Rp K H v d∧(oh E s=false→RpF K F H v d):=by
 obtain⟨v,A1,ev,hs⟩:=h.ext e
 cases s with
 |al i=>
  obtain⟨rfl,w,ew,hw⟩:=hs
  cases ew
  cases ei:E[i]? with
  |none=>simp[PL.look,ei]at q
  |some t=>
   obtain⟨o,A2,eo,ht⟩:=h.var ei
   rw[hw]at eo
   cases eo
   obtain⟨v',e',r,c⟩:=ht.val h.fh (d:=d) (by simpa[PL.look,ei]using q)
   cases e'
   exact⟨v,ev,r,fun z=>c (by simpa[oh,ei]using z)⟩
 |no=>cases q
 |od kvs=>cases q
 |sh d'=>obtain⟨v',e',r,c⟩:=hs.val h.fh q;cases e';exact⟨v,ev,r,c⟩
 |ow ds=>obtain⟨v',e',r,c⟩:=hs.val h.fh q;cases e';exact⟨v,ev,r,c⟩
 |tx ps=>obtain⟨v',e',r,c⟩:=hs.val h.fh q;cases e';exact⟨v,ev,r,c⟩
 |br d'=>obtain⟨v',e',r,c⟩:=hs.val h.fh q;cases e';exact⟨v,ev,r,c⟩
theorem FrF.look0(h:FrF K B F A σ H E (v::xs) (s::Xs))(q:PL.look E s=some d):Rp K H v d∧(oh E s=false→RpF K F H v d):=by
 obtain⟨v',e,r⟩:=h.look (k:=0) rfl q
 cases e
 exact r
theorem FrF.look1{w:V}{t:Sl}(h:FrF K B F A σ H E (w::v::xs) (t::s::Xs))(q:PL.look E s=some d):Rp K H v d∧(oh E s=false→RpF K F H v d):=by
 obtain⟨v',e,r⟩:=h.look (k:=1) rfl q
 cases e
 exact r
theorem FrF.mutA(h:FrF K B F A σ H E xs Xs):∀a∈A,(∃us,H a=some (.lst us))∨∃us,H a=some (.dK us):=
 SAll.all (R:=fun a=>(∃us,H a=some (.lst us))∨∃us,H a=some (.dK us)) (fun _ _ _ q=>q.mut) h.sl
theorem FrF.newA{p:Addr}(h:FrF K B F A σ H E xs Xs)(hp:H p=none):p∉A:=fun hm=>by
 rcases h.mutA p hm with⟨_,z⟩ |⟨_,z⟩ <;> rw[hp]at z <;> cases z
theorem FrF.cold{u:V}{e:PyData}(h:FrF K B F A σ H E xs Xs)(r:Rp K H u e)(f:fO e=true):Rp K F u e:=(r.cold f).same h.tf
theorem FrF.coldA{us:List V}{es:List PyData}(h:FrF K B F A σ H E xs Xs)(r:RpA K H us es)(f:bg es=true):RpA K F us es:=(r.cold f).same h.tf
theorem FrF.push(h:FrF K B F A σ H E xs Xs)(q:SlOk K F H σ (some v) s []):FrF K B F A σ H E (v::xs) (s::Xs):=
 ⟨h.bf,h.fh,h.tf,.cons (A:=[]) q h.sl,h.nd,h.fr,by simp[h.len],h.pl⟩
theorem FrF.pop(h:FrF K B F A σ H E (v::xs) (s::Xs)):∃A',FrF K B F A' σ H E xs Xs:=by
 obtain⟨bf,fh,tf,sl,nd,fr,len,pl⟩:=h
 generalize hT:List.map some (v::xs)++σ=T at sl
 generalize hS:(s::Xs)++E=S at sl
 cases sl with
 |nil=>cases hS
 |cons q r=>
  injection hT with _ hT
  injection hS with _ hS
  subst hT hS
  exact⟨_,bf,fh,tf,r,(List.nodup_append.mp nd).2.1,fun a ha=>fr a (wk _ ha),by simpa using len,pl⟩
theorem FrF.grow(h:FrF K B F A σ H E xs Xs)(g:Same H H'):FrF K B (fun b=>if b∈A then none else H' b) A σ H' E xs Xs:=by
 have nF:∀b o,F b=some o→b∉A:=fun b o e hb=>by rw[h.fr b hb]at e;cases e
 have FF:Same F (fun b=>if b∈A then none else H' b):=fun b o e=>by
  show(if b∈A then none else H' b)=some o
  rw[if_neg (nF b o e)]
  exact g _ _ (h.fh _ _ e)
 have hA:∀b∈A,H' b=H b:=fun b hb=>by
  rcases h.mutA b hb with⟨_,z⟩ |⟨_,z⟩ <;> rw[z,g _ _ z]
 refine⟨h.bf.trans FF,fun b o e=>?_,fun b o e=>?_,h.sl.mono fun o s C _ hC q=>q.stay FF (fun b hb=>hA b (hC b hb)) fun _=>g,h.nd,fun a ha=>if_pos ha,h.len,h.pl⟩
 ·by_cases hb:b∈A
  ·rw[if_pos hb]at e;cases e
  ·rw[if_neg hb]at e;exact e
 ·obtain⟨e1,e2⟩:=Option.filter_eq_some_iff.mp e
  show(if b∈A then none else H' b)=some o
  by_cases hb:b∈A
  ·rw[hA b hb]at e1
   rcases h.mutA b hb with⟨_,z⟩ |⟨_,z⟩ <;> rw[z]at e1 <;> cases e1 <;> cases e2
  ·rw[if_neg hb];exact e1
theorem FrF.newl{p:Addr}{vs:List V}(h:FrF K B F A σ H E xs Xs)(r:RpA K F vs ds)(hp:H p=none):FrF K B F (p::A) σ (fg H p (.lst vs)) E (.ref p::xs) (.ow ds::Xs):=by
 have g:Same H (fg H p (.lst vs)):=i9 hp _
 have nA:=h.newA hp
 refine⟨h.bf,h.fh.trans g,fun b o e=>?_,.cons (A:=[p]) ⟨p,vs,rfl,rfl,ce,r⟩ (h.sl.mono fun o s C _ hC q=>q.stay (Same.refl _) (fun b hb=>aM fun z=>nA (z▸hC b hb)) fun _=>g),List.nodup_cons.mpr ⟨nA,h.nd⟩,fun a ha=>?_,by simp[h.len],h.pl⟩
 ·obtain⟨e1,e2⟩:=Option.filter_eq_some_iff.mp e
  by_cases hb:b=p
  ·subst hb;rw[ce]at e1;cases e1;cases e2
  ·rw[aM hb]at e1;exact h.tf b o (og e1 e2)
 ·rcases Zap.mp ha with z |z
  ·subst z;exact h.fh.free hp
  ·exact h.fr a z
theorem FrF.newt{p:Addr}{vs:List V}(h:FrF K B F A σ H E xs Xs)(r:RpA K F vs ds)(hp:H p=none):FrF K B (fg F p (.tup vs)) A σ (fg H p (.tup vs)) E (.ref p::xs) (.sh (.tuple ds)::Xs):=by
 have g:Same H (fg H p (.tup vs)):=i9 hp _
 have nA:=h.newA hp
 have gF:Same F (fg F p (.tup vs)):=i9 (h.fh.free hp) _
 refine⟨h.bf.trans gF,fun b o e=>?_,fun b o e=>?_,.cons (A:=[]) ⟨rfl,_,rfl,.tup (.inl (.inl ce)) (r.same gF)⟩ (h.sl.mono fun o s C _ hC q=>q.stay gF (fun b hb=>aM fun z=>nA (z▸hC b hb)) fun _=>g),h.nd,fun a ha=>?_,by simp[h.len],h.pl⟩
 ·by_cases hb:b=p
  ·subst hb;rw[ce]at e ⊢;exact e
  ·rw[aM hb]at e ⊢;exact h.fh _ _ e
 ·obtain⟨e1,e2⟩:=Option.filter_eq_some_iff.mp e
  by_cases hb:b=p
  ·subst hb;rw[ce]at e1 ⊢;exact e1
  ·rw[aM hb]at e1 ⊢;exact h.tf b o (og e1 e2)
 ·have ne:a≠p:=fun z=>nA (z▸ha)
  rw[aM ne];exact h.fr a ha
theorem FrF.mut{i:Nat}(h:FrF K B F A σ H E xs Xs)(e:E[i]? =some (.ow ds))(c:∀s∈Xs,s.isBr=false):
  ∃l vs,σ[i]? =some (some (.ref l))∧H l=some (.lst vs)∧RpA K F vs ds∧∀vs' ds',RpA K F vs' ds'→FrF K B F A σ (fg H l (.lst vs')) (E.set i (.ow ds')) xs Xs:=by
 obtain⟨o,A0,A1,A2,eA,eo,hp,put⟩:=h.sl.at (k:=Xs.length+i) (s:=.ow ds) (by rw[FZ (by omega)];simpa using e)
 rw[FZ (by rw[c_,h.len];omega),c_,h.len,Dq]at eo
 obtain⟨l,vs,rfl,rfl,hl,r⟩:=hp
 refine⟨l,vs,eo,hl,r,fun vs' ds' r'=>?_⟩
 have hlA:l∈A:=by rw[eA];simp
 have nl:∀b,b∈A0∨b∈A2→b≠l:=fun b hb z=>by
  subst z
  have nd:=h.nd
  rw[eA]at nd
  rcases hb with hb |hb
  ·exact(List.nodup_append.mp nd).2.2 b hb b (by simp) rfl
  ·exact(List.nodup_append.mp (List.nodup_append.mp nd).2.1).2.2 b (by simp) b hb rfl
 have lF:F l=none:=h.fr l hlA
 have z:=put (SlOk K F (fg H l (.lst vs')) σ) (some (.ref l)) (.ow ds') [l] ⟨l,vs',rfl,rfl,ce,r'⟩ fun o s C hs hC q=>q.stay (Same.refl _) (fun b hb=>aM (nl b (hC b hb))) fun z=>by
  rcases Zai.mp hs with hs |hs
  ·rw[c s hs]at z;cases z
  ·have:=h.pl s hs
   cases s <;> simp[Sl.isAl,Sl.isBr]at this z
 have e3:(Xs++E).set (Xs.length+i) (.ow ds')=Xs++E.set i (.ow ds'):=by
  rw[List.set_append_right _ _ (by omega),Dq]
 have e2:(List.map some xs++σ).set (Xs.length+i) (some (V.ref l))=List.map some xs++σ:=by
  rw[←h.len,List.set_append_right _ _ (by rw[c_];omega),c_,Dq]
  congr 1
  exact List.ext_getElem? fun j=>by
   by_cases hj:i=j
   ·subst hj
    rw[List.getElem?_set_self',eo];rfl
   ·rw[List.getElem?_set_ne hj]
 rw[e2,e3,←eA]at z
 refine⟨h.bf,fun b o q=>?_,?_,z,h.nd,h.fr,h.len,fun s hs=>?_⟩
 ·rw[aM (fun z=>by rw[z,lF]at q;cases q)]
  exact h.fh _ _ q
 ·rw[wD hl];exact h.tf
 ·rcases List.mem_or_eq_of_mem_set hs with hs |hs
  ·exact h.pl s hs
  ·subst hs;rfl
theorem FrF.frzAt(h:FrF K B F A σ H E xs Xs)(e:(Xs++E)[k]? =some s)(q:s.val=some d)(c:s.isAl=false):
  ∃F' A' v,(xs.map some++σ)[k]? =some (some v)∧Rp K F' v d∧Same B F'∧Same F' H∧Same (tups H) F'∧SAll (SlOk K F' H σ) (xs.map some++σ) ((Xs++E).set k (.sh d)) A'∧A'.Nodup∧∀a∈A',F' a=none:=by
 obtain⟨o,A0,A1,A2,eA,eo,hp,put⟩:=h.sl.at e
 have nd:=h.nd
 rw[eA]at nd
 have nA1:∀b o,F b=some o→b∉A1:=fun b o e hb=>by
  have:=h.fr b (by rw[eA];simp[hb])
  rw[this]at e;cases e
 have FF:Same F (wF F H A1):=fun b o e=>by rw[rA (nA1 b o e)];exact e
 obtain⟨v,rfl,r⟩:∃v,o=some v∧Rp K (wF F H A1) v d:=by
  cases s with
  |no=>cases q
  |od kvs=>cases q
  |al i=>cases c
  |br d'=>cases c
  |sh d'=>
   obtain⟨rfl,v,rfl,r⟩:=hp
   cases q
   exact⟨v,rfl,r.same FF⟩
  |ow ds=>
   obtain⟨l,vs,rfl,rfl,hl,r⟩:=hp
   cases q
   exact⟨_,rfl,.lst (SqL.of ((u4 (by simp)).trans hl)) (r.same FF)⟩
  |tx ps=>
   obtain⟨t,vs,rfl,ht,r⟩:=hp
   cases q
   refine⟨_,rfl,.tup (SqT.of (FF _ _ ht)) ?_⟩
   have r':PtsOk K (wF F H A1) (wF F H A1) vs ps A1:=r.stay FF fun b hb=>u4 hb
   exact r'.rp (Same.refl _)
 have e2:(List.map some xs++σ).set k (some v)=List.map some xs++σ:=List.ext_getElem? fun j=>by
  by_cases hj:k=j
  ·subst hj
   rw[List.getElem?_set_self',eo];rfl
  ·rw[List.getElem?_set_ne hj]
 have z:=put (SlOk K (wF F H A1) H σ) (some v) (.sh d) [] ⟨rfl,v,rfl,r⟩ fun o s C _ hC q=>q.stay FF (fun b _=>rfl) fun _=>Same.refl _
 rw[e2]at z
 refine⟨wF F H A1,A0++A2,v,eo,r,h.bf.trans FF,fun b o e=>?_,fun b o e=>FF _ _ (h.tf _ _ e),by simpa using z,?_,fun a ha=>?_⟩
 ·by_cases hb:b∈A1
  ·rw[u4 hb]at e;exact e
  ·rw[rA hb]at e;exact h.fh _ _ e
 ·exact List.Nodup.sublist (List.Sublist.append (List.Sublist.refl _) (List.sublist_append_right _ _)) nd
 ·have hn:a∉A1:=fun hm=>by
   rcases Zai.mp ha with z |z
   ·exact(List.nodup_append.mp nd).2.2 a z a (by simp[hm]) rfl
   ·exact(List.nodup_append.mp (List.nodup_append.mp nd).2.1).2.2 a hm a z rfl
  rw[rA hn]
  exact h.fr a (by rw[eA];rcases Zai.mp ha with z |z <;> simp[z])
end
def frz(E:List Sl):Sl→Option (PyData×List Sl)
 |.sh d=>some (d,E)
 |.ow ds=>some (.list ds,E)
 |.tx ps=>some (.tuple (ps.map Pt.val),E)
 |.br d=>if fO d then some (d,E)else none
 |.al i=>match E[i]? with
  |some (.sh d)=>some (d,E)
  |some (.ow ds)=>some (.list ds,E.set i (.sh (.list ds)))
  |some (.tx ps)=>some (.tuple (ps.map Pt.val),E.set i (.sh (.tuple (ps.map Pt.val))))
  |_=>none
 |_=>none
section
variable {K:Frag} {B F:Hp} {A:List Addr} {σ:Sg} {H:Hp} {E E':List Sl} {xs:List V} {Xs:List Sl} {v:V} {s:Sl} {d:PyData}
theorem FrF.frzVar{i:Nat}(h:FrF K B F A σ H E xs Xs)(e:E[i]? =some s)(q:s.val=some d):∃F' A' v,σ[i]? =some (some v)∧Rp K F' v d∧FrF K B F' A' σ H (E.set i (.sh d)) xs Xs:=by
 obtain⟨F',A',v,ev,r,b1,b2,b3,sl,nd,fr⟩:=h.frzAt (k:=Xs.length+i) (by rw[FZ (by omega)];simpa using e) q (h.pl s (List.mem_of_getElem? e))
 rw[FZ (by rw[c_,h.len];omega),c_,h.len,Dq]at ev
 have e3:(Xs++E).set (Xs.length+i) (.sh d)=Xs++E.set i (.sh d):=by
  rw[List.set_append_right _ _ (by omega),Dq]
 rw[e3]at sl
 refine⟨F',A',v,ev,r,b1,b2,b3,sl,nd,fr,h.len,fun s hs=>?_⟩
 rcases List.mem_or_eq_of_mem_set hs with hs |hs
 ·exact h.pl s hs
 ·subst hs;rfl
theorem FrF.frz0(h:FrF K B F A σ H E (v::xs) (s::Xs))(q:PL.frz E s=some (d,E')):∃F' A',FrF K B F' A' σ H E' (v::xs) (.sh d::Xs):=by
 have key:s.val=some d→s.isAl=false→E=E'→∃F' A',FrF K B F' A' σ H E' (v::xs) (.sh d::Xs):=fun q' c e=>by
  subst e
  obtain⟨F',A',v',ev,r,b1,b2,b3,sl,nd,fr⟩:=h.frzAt (k:=0) rfl q' c
  exact⟨F',A',b1,b2,b3,sl,nd,fr,by simpa using h.len,h.pl⟩
 have al:∀i t,s=.al i→E[i]? =some t→t.val=some d→E'=E.set i (.sh d)→∃F' A',FrF K B F' A' σ H E' (v::xs) (.sh d::Xs):=fun i t es ei qt eE=>by
  subst es eE
  obtain⟨v',A1,ev,hs⟩:=h.ext (k:=0) rfl
  cases ev
  obtain⟨rfl,w,ew,hw⟩:=hs
  cases ew
  obtain⟨F',A',w,ew,r,h'⟩:=h.frzVar ei qt
  rw[hw]at ew
  cases ew
  obtain⟨A2,h2⟩:=h'.pop
  exact⟨F',A2,h2.push ⟨rfl,_,rfl,r⟩⟩
 cases s with
 |no=>cases q
 |od kvs=>cases q
 |sh d'=>cases q;exact key rfl rfl rfl
 |ow ds=>cases q;exact key rfl rfl rfl
 |tx ps=>cases q;exact key rfl rfl rfl
 |br d'=>
  simp only[PL.frz]at q
  split at q
  ·rename_i hf
   cases q
   obtain⟨r,_⟩:=h.look0 (d:=d) rfl
   obtain⟨A2,h2⟩:=h.pop
   exact⟨F,A2,h2.push ⟨rfl,_,rfl,h.cold r hf⟩⟩
  ·cases q
 |al i=>
  simp only[PL.frz]at q
  split at q
  ·rename_i d' ei
   cases q
   refine al i _ rfl ei rfl ?_
   exact List.ext_getElem? fun j=>by
    by_cases hj:i=j
    ·subst hj;rw[List.getElem?_set_self',ei];rfl
    ·rw[List.getElem?_set_ne hj]
  ·rename_i ds ei
   cases q
   exact al i _ rfl ei rfl rfl
  ·rename_i ps ei
   cases q
   exact al i _ rfl ei rfl rfl
  ·cases q
theorem FrF.store{i:Nat}(h:FrF K B F A σ H E (v::xs) (s::Xs))(c:s.isAl=false)(cx:∀s∈Xs,s.isAl=false)(hi:i < E.length):∃A',FrF K B F A' (σ.set i (some v)) H (E.set i s) xs Xs:=by
 have hlen:=h.len
 have hsl:=h.slen
 obtain⟨bf,fh,tf,sl,nd,fr,len,pl⟩:=h
 generalize hT:List.map some (v::xs)++σ=T at sl
 generalize hS:(s::Xs)++E=S at sl
 cases sl with
 |nil=>cases hS
 |cons q r=>
  rename_i A1 _ _ A2
  injection hT with h1 hT
  injection hS with h2 hS
  subst h1 h2 hT hS
  have len':xs.length=Xs.length:=by simpa using len
  have r:SAll (SlOk K F H σ) (List.map some xs++σ) (Xs++E) A2:=r
  obtain⟨t,et⟩:∃t,E[i]? =some t:=⟨E[i],yN hi⟩
  obtain⟨o,C0,C1,C2,eA,eo,hp,put⟩:=r.at (k:=Xs.length+i) (s:=t) (by rw[FZ (by omega)];simpa using et)
  have all:∀s'∈Xs++E,s'.isAl=false:=fun s' hs=>(Zai.mp hs).elim (cx s') (pl s')
  have chg:∀(o:Option V) (s':Sl) (C:List Addr),s'.isAl=false→SlOk K F H σ o s' C→SlOk K F H (σ.set i (some v)) o s' C:=fun o s' C hc z=>by
   cases s' <;> first |exact z |cases hc
  have z:=put (SlOk K F H (σ.set i (some v))) (some v) s A1 (chg _ _ _ c q) fun o s' C hs _ z=>chg o s' C (all s' hs) z
  have e3:(Xs++E).set (Xs.length+i) s=Xs++E.set i s:=by
   rw[List.set_append_right _ _ (by omega),Dq]
  have e2:(List.map some xs++σ).set (Xs.length+i) (some v)=List.map some xs++σ.set i (some v):=by
   rw[←len',List.set_append_right _ _ (by rw[c_];omega),c_,Dq]
  rw[e2,e3]at z
  refine⟨_,bf,fh,tf,z,?_,fun a ha=>fr a ?_,len',fun s' hs=>?_⟩
  ·rw[eA]at nd
   have p:(C0++(A1++C2)).Perm (A1++(C0++C2)):=by
    rw[←n8,←n8]
    exact List.Perm.append_right _ List.perm_append_comm
   refine p.nodup_iff.mpr (List.Nodup.sublist ?_ nd)
   exact List.Sublist.append (List.Sublist.refl _) (List.Sublist.append (List.Sublist.refl _) (List.sublist_append_right _ _))
  ·rw[eA]
   simp only[Zai]at ha ⊢
   rcases ha with z |z |z
   ·exact .inr (.inl z)
   ·exact .inl z
   ·exact .inr (.inr (.inr z))
  ·rcases List.mem_or_eq_of_mem_set hs with hs |hs
   ·exact pl s' hs
   ·subst hs;exact c
end
end PL
namespace PL
open PySem L2 Nh
abbrev aY:=List Sl→Option (Sl×List Sl)
abbrev lq:=List Sl→Option (Bool×List Sl)
abbrev rB:=List Sl→Option (List Sl×List Sl)
abbrev oi:=List Sl→Option (List PyData×List Sl)
inductive Fl where
 |nx |bk |ct |rt (r:Sl)
abbrev bX:=List Sl→Option (List Sl×Fl)
abbrev Calm(Xs:List Sl):Prop:=∀s∈Xs,s.isBr=false
abbrev Still(Xs:List Sl):Prop:=∀s∈Xs,s.isAl=false
theorem Still.calm(h:Still Xs):Calm Xs:=fun s hs=>by
 have:=h s hs
 cases s <;> simp[Sl.isAl,Sl.isBr]at this ⊢
theorem Still.nil(h:Xs=[]):Still Xs:=fun s hs=>by subst h;cases hs
theorem Calm.nil(h:Xs=[]):Calm Xs:=(Still.nil h).calm
theorem Calm.cons{s:Sl}(h:Calm Xs)(hs:s.isBr=false):Calm (s::Xs):=fun t ht=>(Zap.mp ht).elim (fun e=>e▸hs) (h t)
def rd(K:Frag)(m:Bool)(f:aY):TE:=fun σ H Q=>∃B E xs Xs r E',Frm K B σ H E xs Xs∧(m=true→Calm Xs)∧f E=some (r,E')∧∀v H',Frm K B σ H' E' (v::xs) (r::Xs)→Q v H'
def rt(K:Frag)(m:Bool)(f:lq):TT:=fun σ H Q=>∃B E xs Xs b E',Frm K B σ H E xs Xs∧(m=true→Calm Xs)∧f E=some (b,E')∧∀H',Frm K B σ H' E' xs Xs→Q b H'
def ra(K:Frag)(m:Bool)(f:rB):TA:=fun σ H Q=>∃B E xs Xs rs E',Frm K B σ H E xs Xs∧(m=true→Calm Xs)∧f E=some (rs,E')∧∀vs H',vs.length=rs.length→Frm K B σ H' E' (vs.reverse++xs) (rs.reverse++Xs)→Q vs H'
def NF(K:Frag)(m:Bool)(f:oi):TA:=fun σ H Q=>∃B E xs Xs ds E',Frm K B σ H E xs Xs∧(m=true→Calm Xs)∧f E=some (ds,E')∧∀vs H',vs.length=ds.length→Frm K B σ H' E' (vs.reverse++xs) (ds.reverse.map .sh++Xs)→Q vs H'
def rs(K:Frag)(g:bX):TS:=fun D σ H=>∃B E xs Xs E' fl,Frm K B σ H E xs Xs∧Xs=[]∧g E=some (E',fl)∧match fl with
 |.nx=>∀σ' H',Frm K B σ' H' E' xs Xs→D.nx σ' H'
 |.bk=>∀σ' H',Frm K B σ' H' E' xs Xs→D.bk σ' H'
 |.ct=>∀σ' H',Frm K B σ' H' E' xs Xs→D.ct σ' H'
 |.rt r=>∀σ' v H',Frm K B σ' H' E' (v::xs) (r::Xs)→D.rt v H'
def EX(X:Cx)(e:Expr)(m:Bool)(f:aY):Prop:=PE X e (rd X.K m f)
def TX(X:Cx)(e:Expr)(m:Bool)(f:lq):Prop:=PT X e (rt X.K m f)
def WX(X:Cx)(e:Expr)(m:Bool)(f:lq):Prop:=PW X e (rt X.K m f)
def AX(X:Cx)(es:List Expr)(m:Bool)(f:rB):Prop:=PA X es (ra X.K m f)
def DX(X:Cx)(es:List Expr)(m:Bool)(f:oi):Prop:=PA X es (NF X.K m f)
def SX(X:Cx)(s:Stmt)(g:bX):Prop:=PS X s (rs X.K g)
def AK(X:Cx)(s:List Stmt)(g:bX):Prop:=PSs X s (rs X.K g)
section
variable {X:Cx}
theorem bx{t t':TE}(h:PE X e t)(k:∀σ H Q,t' σ H Q→t σ H Q):PE X e t':=fun pins s σ H Q I q=>h pins s σ H Q I (k σ H Q q)
theorem u5{t t':TT}(h:PT X e t)(k:∀σ H Q,t' σ H Q→t σ H Q):PT X e t':=fun pins s σ H Q I q=>h pins s σ H Q I (k σ H Q q)
theorem DS{t t':TT}(h:PW X e t)(k:∀σ H Q,t' σ H Q→t σ H Q):PW X e t':=fun whole pins s σ H Q I q=>h whole pins s σ H Q I (k σ H Q q)
theorem u6{es:List Expr}{t t':TA}(h:PA X es t)(k:∀σ H Q,t' σ H Q→t σ H Q):PA X es t':=fun pos pins s σ H Q I q=>h pos pins s σ H Q I (k σ H Q q)
theorem m5{t t':TS}(h:PS X st t)(k:∀D σ H,t' D σ H→t D σ H):PS X st t':=fun pins s σ H D I q=>h pins s σ H D I (k D σ H q)
theorem AL{st:List Stmt}{t t':TS}(h:PSs X st t)(k:∀D σ H,t' D σ H→t D σ H):PSs X st t':=fun pins s σ H D I q=>h pins s σ H D I (k D σ H q)
end
def HX:PyData→Option V
 |.none=>some .non
 |.bool b=>some (.bl b)
 |.int i=>some (.int i)
 |.str x=>some (.str x)
 |_=>none
theorem oY{K:Frag}{H:Hp}{v:V}(h:HX d=some v):Rp K H v d:=by
 cases d <;> simp[HX]at h <;> subst h <;> constructor
def ae(i:Nat):aY:=fun E=>match E[i]? with
 |some (.sh d)=>some (.sh d,E)
 |some (.ow _)=>some (.al i,E)
 |some (.od _)=>some (.al i,E)
 |some (.tx _)=>some (.al i,E)
 |_=>none
def pC(d:PyData):aY:=fun E=>some (.sh d,E)
section
variable {X:Cx} {K:Frag}
theorem aa(i:Nat)  {pos:Pos} (hN:X.N[i]? =some x:=by rfl) (hv:HR X.env.scope x:=by first |exact Or.inl rfl |exact Or.inr (Or.inl rfl) |exact Or.inr (Or.inr rfl)) (hd:(x == ("__debug__":Str))=false:=by decide)
  (hcd:(x == ("__classdict__":Str))=false:=by decide):EX X (.Name x pos) false (ae i):=by
 refine bx (oT hN hv hd hcd) fun σ H Q h=>?_
 obtain⟨B,E,xs,Xs,r,E',⟨F,A,fr⟩,_,e,q⟩:=h
 unfold ae at e
 split at e
 ·rename_i d ei
  cases e
  obtain⟨o,A1,eo,rfl,v,rfl,rp⟩:=fr.var ei
  exact⟨v,eo,q v H ⟨F,A,fr.push ⟨rfl,v,rfl,rp⟩⟩⟩
 ·rename_i ds ei
  cases e
  obtain⟨o,A1,eo,l,vs,rfl,_⟩:=fr.var ei
  exact⟨_,eo,q _ H ⟨F,A,fr.push ⟨rfl,_,rfl,eo⟩⟩⟩
 ·rename_i ds ei
  cases e
  obtain⟨o,A1,eo,l,vs,A2,rfl,_⟩:=fr.var ei
  exact⟨_,eo,q _ H ⟨F,A,fr.push ⟨rfl,_,rfl,eo⟩⟩⟩
 ·rename_i ds ei
  cases e
  obtain⟨o,A1,eo,l,vs,rfl,_⟩:=fr.var ei
  exact⟨_,eo,q _ H ⟨F,A,fr.push ⟨rfl,_,rfl,eo⟩⟩⟩
 ·cases e
theorem Jl{v:V}(d:PyData)(h:PE X e (tC v))(hd:HX d=some v:=by rfl):EX X e false (pC d):=by
 refine bx h fun σ H Q h=>?_
 obtain⟨B,E,xs,Xs,r,E',⟨F,A,fr⟩,_,e,q⟩:=h
 cases e
 exact q v H ⟨F,A,fr.push ⟨rfl,v,rfl,oY hd⟩⟩
theorem ar{i j pos}:EX X (.Constant (.int i) j pos) false (pC (.int i)):=Jl _ Ix
theorem pW{b j pos}:EX X (.Constant (.bool b) j pos) false (pC (.bool b)):=Jl _ Du
theorem cG{x j pos}:EX X (.Constant (.str x) j pos) false (pC (.str x)):=Jl _ yY
end
abbrev P2:=List Sl→Sl→Sl→Option (Sl×List Sl)
def lr(K:Frag)(r:R2)(p:P2):Prop:=∀{B F:Hp} {A:List Addr} {σ:Sg} {H:Hp} {E:List Sl} {xs:List V} {Xs:List Sl} {v1 v2:V} {s1 s2 res:Sl} {E':List Sl} {Q:VK},
 FrF K B F A σ H E (v2::v1::xs) (s2::s1::Xs)→p E s1 s2=some (res,E')→(∀v H',Frm K B σ H' E' (v::xs) (res::Xs)→Q v H')→r v1 v2 H Q
def ag(p:P2)(m2:Bool)(f g:aY):aY:=fun E=>(f E).bind fun a=>if m2&&a.1.isBr then none else (g a.2).bind fun b=>p b.2 a.1 b.1
theorem u7{K:Frag}{r:R2}{p:P2}(hp:lr K r p){f g:aY}{σ:Sg}{H:Hp}{Q:VK}(h:rd K (m1||m2) (ag p m2 f g) σ H Q):KC r (rd K m1 f) (rd K m2 g) σ H Q:=by
 obtain⟨B,E,xs,Xs,res,E',fr,c,e,q⟩:=h
 obtain⟨⟨s1,E1⟩,e1,e⟩:=Za.mp e
 by_cases hb:(m2&&s1.isBr)=true
 ·rw[if_pos hb]at e;cases e
 rw[if_neg hb]at e
 obtain⟨⟨s2,E2⟩,e2,e⟩:=Za.mp e
 refine⟨B,E,xs,Xs,s1,E1,fr,fun z=>c (by simp[z]),e1,fun v1 H1 fr1=>?_⟩
 refine⟨B,E1,v1::xs,s1::Xs,s2,E2,fr1,fun z=>?_,e2,fun v2 H2 fr2=>?_⟩
 ·refine Calm.cons (c (by simp[z])) ?_
  cases hs:s1.isBr with
  |false=>rfl
  |true=>exact absurd (by simp[z,hs]) hb
 ·obtain⟨F,A,fr2⟩:=fr2
  exact hp fr2 e q
def hJ(op:PyData→PyData→Option PyData):P2:=fun E s1 s2=>(look E s1).bind fun d1=>(look E s2).bind fun d2=>(op d1 d2).map fun d=>(.sh d,E)
theorem FrF.res2{K:Frag}{B:Hp}{A:List Addr}{σ:Sg}{H:Hp}{v:V}{s:Sl}(h:FrF K B F A σ H E (v2::v1::xs) (s2::s1::Xs))(q:SlOk K F H σ (some v) s []):Frm K B σ H E (v::xs) (s::Xs):=by
 obtain⟨A1,h⟩:=h.pop
 obtain⟨A2,h⟩:=h.pop
 exact⟨F,A2,h.push q⟩
theorem lz{K:Frag}{r:R2}{op:PyData→PyData→Option PyData}(h:∀(d1 d2 d:PyData) (v1 v2:V) (H:Hp) (Q:VK),op d1 d2=some d→Rp K H v1 d1→Rp K H v2 d2→∃v,HX d=some v∧(Q v H→r v1 v2 H Q)):lr K r (hJ op):=by
 intro B F A σ H E xs Xs v1 v2 s1 s2 res E' Q fr e q
 obtain⟨d1,e1,e⟩:=Za.mp e
 obtain⟨d2,e2,e⟩:=Za.mp e
 obtain⟨d,e3,e⟩:=Zad.mp e
 cases e
 obtain⟨v,hv,k⟩:=h d1 d2 d v1 v2 H Q e3 (fr.look1 e1).1 (fr.look0 e2).1
 exact k (q v H (fr.res2 ⟨rfl,v,rfl,oY hv⟩))
section
variable {X:Cx} {a b:Expr} {m1 m2:Bool} {f g:aY} {pos:Pos}
theorem pX{op:Operator}{r:R2}{p:P2}(ho:OpR X (binaryOp op) r)(hp:lr X.K r p)(ha:EX X a m1 f)(hb:EX X b m2 g):EX X (.BinOp a op b pos) (m1||m2) (ag p m2 f g):=bx (KD ho ha hb) fun _ _ _ h=>u7 hp h
theorem zI{op:CmpOp}{r:R2}{p:P2}(ho:OpR X (compareOp op) r)(hp:lr X.K r p)(ha:EX X a m1 f)(hb:EX X b m2 g)(hm:behindInMarks op b=false):EX X (.Compare a [op] [b] pos) (m1||m2) (ag p m2 f g):=bx (Gj ho ha hb hm) fun _ _ _ h=>u7 hp h
def dW(f:aY):lq:=fun E=>(f E).bind fun a=>match a.1 with
 |.sh (.bool b)=>some (b,a.2)
 |_=>none
theorem DT{K:Frag}{f:aY}{σ:Sg}{H:Hp}{Q:Bool→Hp→Prop}(h:rt K m (dW f) σ H Q):rd K m f σ H (fun x H'=>∃k,x=.bl k∧Q k H'):=by
 obtain⟨B,E,xs,Xs,b,E',fr,c,e,q⟩:=h
 obtain⟨⟨s,E1⟩,e1,e⟩:=Za.mp e
 refine⟨B,E,xs,Xs,s,E1,fr,c,e1,fun v H' ⟨F,A,fr'⟩=>?_⟩
 simp only at e
 split at e
 ·cases e
  obtain⟨r,_⟩:=fr'.look0 (d:=.bool b) rfl
  cases r
  obtain⟨A',fr2⟩:=fr'.pop
  exact⟨b,rfl,q H' ⟨F,A',fr2⟩⟩
 ·cases e
theorem rC{op:CmpOp}{r:R2}{p:P2}(ho:OpR X (compareOp op) r)(hp:lr X.K r p)(ha:EX X a m1 f)(hb:EX X b m2 g)(hm:behindInMarks op b=false):TX X (.Compare a [op] [b] pos) (m1||m2) (dW (ag p m2 f g)):=by
 refine u5 (Gk ho ha hb hm) fun σ H Q h=>?_
 exact u7 hp (DT h)
end
def Gz:Int:=2 ^ 20000
def gw(i j:Int):Bool:=decide (-(2 ^ 64) < i∧i < 2 ^ 64)||decide (-(2 ^ 64) < j∧j < 2 ^ 64)||decide (-Gz < i∧i < Gz∧ -Gz < j∧j < Gz)
def kW(j:Int):Bool:=decide (0 < j∧j < 2 ^ 200)
def yS(C:Int→Int→Bool)(g:Int→Int→PyData):PyData→PyData→Option PyData
 |.int i,.int j=>if C i j then some (g i j)else none
 |_,_=>none
abbrev HY(C:Int→Int→Bool)(g:Int→Int→V):R2:=rI (fun i j=>C i j=true) g
theorem oZ{K:Frag}{C:Int→Int→Bool}{g:Int→Int→PyData}{g':Int→Int→V}(hg:∀i j,HX (g i j)=some (g' i j)):lr K (HY C g') (hJ (yS C g)):=by
 refine lz fun d1 d2 d v1 v2 H Q e r1 r2=>?_
 unfold yS at e
 split at e
 ·split at e
  ·cases e
   cases r1
   cases r2
   rename_i hC
   exact⟨_,hg _ _,fun q=>⟨_,_,rfl,rfl,hC,q⟩⟩
  ·cases e
 ·cases e
section
variable {X:Cx}
theorem pY{i:Int}(h1: -Gz < i)(h2:i < Gz):Builtin.Int.intBits i≤2 ^ 20:=by
 unfold Gz at h1 h2
 have h:i.natAbs < 2 ^ 20000:=by
  have e:((2 ^ 20000:Nat):Int)=2 ^ 20000:=Int.natCast_pow 2 20000
  generalize (2 ^ 20000:Int)=z at h1 h2 e
  generalize (2 ^ 20000:Nat)=y at e ⊢
  omega
 unfold Builtin.Int.intBits
 split
 ·exact pT _
 ·rename_i hz
  have hz':i≠0:=by simpa using hz
  have:i.natAbs.log2 < 20000:=(Nat.log2_lt (by omega)).mpr h
  omega
theorem DU{i j:Int}(h:gw i j=true):PySem.IntMulOk i j:=by
 unfold gw at h
 simp only[Bool.or_eq_true,decide_eq_true_eq]at h
 rcases h with(h |h) |h
 ·exact CMul.ok (.inl h)
 ·exact CMul.ok (.inr h)
 ·exact PySem.IntMulOk.of_bits (pY h.1 h.2.1) (pY h.2.2.1 h.2.2.2)
end
end PL
variable {it:PL.oi} {cond:PL.lq} {el:PL.aY}
namespace PL
open PySem L2 Nh PyProof.Rows
abbrev o4:=L2.St
section
variable {X:Cx}
theorem OpR.or{f:Value→Value→Sem Value}{r:R2}(h:OpR X f r)(h':OpR X f r'):OpR X f (fun x y H Q=>r x y H Q∨r' x y H Q):=by
 intro pins s σ H x y v u Q I rx ry q
 rcases q with q |q
 ·exact h pins s σ H x y v u Q I rx ry q
 ·exact h' pins s σ H x y v u Q I rx ry q
theorem OpR.imp{f:Value→Value→Sem Value}{r:R2}(h:OpR X f r)(k:∀x y H Q,r' x y H Q→r x y H Q):OpR X f r':=fun pins s σ H x y v u Q I rx ry q=>h pins s σ H x y v u Q I rx ry (k _ _ _ _ q)
def HZ(K:Frag):R2:=fun x y H Q=>∃l b xs zs,x=.ref l∧y=.ref b∧SqL K H l xs∧SqL K H b zs∧xs.length+zs.length≤sizeLine∧∀p,H p=none→Q (.ref p) (fg H p (.lst (xs++zs)))
theorem GA:OpR X (binaryOp .Add) (HZ X.K):=by
 intro pins s σ H x y v u Q I rx ry h
 obtain⟨l,b,xs,zs,rfl,rfl,hH,hB,hz,q⟩:=h
 cases rx
 cases ry
 obtain⟨its,r,p1,z1⟩:=I.list hH
 obtain⟨its2,r2,p2,z2⟩:=I.list hB
 obtain⟨⟨cls,dd,data,sl⟩,ho,hc,n,hd⟩:=p1.isList
 obtain⟨⟨cls2,dd2,data2,sl2⟩,ho2,hc2,n2,qP⟩:=p2.isList
 simp only at hc hd hc2 qP
 subst hc hd hc2 qP
 have l1:=r.length
 have l2:=r2.length
 refine concat_meets ⟨_,ho,rfl⟩ ⟨_,ho2,rfl⟩ noFill_list_add seq_list_add PySem.F.slot_list_add PySem.F.entry_list_add (PySem.F.args_list_add_2 _ _) (list_addW l b its.toArray its2.toArray n n2 dd dd2 sl sl2 (by simp only[n4];omega)) ⟨ho,ho2,?_⟩
 have ea:its.toArray++its2.toArray=(its++its2).toArray:=by simp
 rw[ea]
 exact⟨.ref _,_,I.lnew (t':=s.toks) (r.append r2) (by rw[iK];omega),rfl,q _ I.fresh⟩
def H0(K:Frag):R2:=fun x y H Q=>∃l k xs,x=.ref l∧y=.int k∧SqL K H l xs∧ -(2 ^ 63)≤k∧k < 2 ^ 63∧xs.length*k.toNat≤sizeLine∧
 ∀p,H p=none→Q (.ref p) (fg H p (.lst (List.replicate k.toNat xs).flatten))
theorem GB:OpR X (binaryOp .Mult) (H0 X.K):=by
 intro pins s σ H x y v u Q I rx ry h
 obtain⟨l,k,xs,rfl,rfl,hH,h1,h2,hz,q⟩:=h
 cases rx
 obtain⟨t,rfl⟩:=ry
 obtain⟨its,r,p1,z1⟩:=I.list hH
 obtain⟨⟨cls,d,data,sl⟩,ho,hcl,n,hd⟩:=p1.isList
 simp only at hcl hd
 subst hcl hd
 have l1:=r.length
 have hsz:its.toArray.size*k.toNat≤2 ^ 24:=by rw[n4,←l1];exact hz
 refine wpAny_binaryOp_repeat_ref (T:="list") (U:="int") (by decide) ⟨_,ho,rfl⟩ (fun s'=>typeIs_int s' k t) noFill_list_mul F.fills_int_mul F.slot_int_rmul repeat_list F.slot_int_index.lookup
  (call_meets F.slot_int_rmul (typeIs_int s k t) F.entry_int_rmul (F.args_int_rmul_2 _ _) (lm_int_rmul_list_any k t l its.toArray n d sl)
   ⟨ho,rfl,⟨_,ho,rfl⟩,call_meets F.slot_list_mul ⟨_,ho,rfl⟩ F.entry_list_mul (F.args_list_mul_2 _ _)
    (lm_list_mul_any l its.toArray n d sl k t (by simp[Builtin.List.listFitsIndex];omega) (by omega) (by simp[Builtin.List.listTooLong,sizeLine];omega))
    ⟨ho,?_⟩⟩)
 rw[listMul_foldl_if]
 exact⟨.ref _,_,I.lnew (t':=s.toks) (r.rep k.toNat) (by rw[Gv,Nat.mul_comm];exact hz),rfl,q _ I.fresh⟩
end
def aQ:P2:=fun E s1 s2=>(look E s1).bind fun d1=>(look E s2).bind fun d2=>match d1,d2 with
 |.int i,.int j=>some (.sh (.int (i+j)),E)
 |.str a,.str b=>if a.length+b.length≤1000000 then some (.sh (.str (a++b)),E)else none
 |.list a,.list b=>if decide (a.length+b.length≤1000000)&&(!oh E s1||bg a)&&(!oh E s2||bg b)then some (.ow (a++b),E)else none
 |_,_=>none
theorem small{n:Nat}(h:n≤1000000):n < sizeLine:=yX h (by rw[sizeLine_eq];decide)
theorem i_{n:Nat}(h:n≤1000000):n≤sizeLine:=mY (small h)
section
variable {K:Frag} {B F:Hp} {A:List Addr} {σ:o4} {H:Hp} {E:List Sl} {xs:List V} {Xs:List Sl} {v:V} {s:Sl} {ds:List PyData}
theorem FrF.items(h:FrF K B F A σ H E xs Xs)(e:Xs[k]? =some s)(q:PL.look E s=some (.list ds))(c:(!oh E s||bg ds)=true):∃a vs,xs[k]? =some (.ref a)∧SqL K H a vs∧RpA K F vs ds:=by
 obtain⟨v,ev,r,f⟩:=h.look e q
 cases hh:oh E s with
 |false=>
  obtain⟨a,vs,rfl,h1,h2⟩:=f hh
  exact⟨a,vs,ev,h1,h2⟩
 |true=>
  rw[hh]at c
  cases r with
  |lst h1 h2=>exact⟨_,_,ev,h1,h.coldA h2 (by simpa using c)⟩
theorem FrF.res2l{vs:List V}(h:FrF K B F A σ H E (v2::v1::xs) (s2::s1::Xs))(r:RpA K F vs ds){p:Addr}(hp:H p=none):Frm K B σ (fg H p (.lst vs)) E (.ref p::xs) (.ow ds::Xs):=by
 obtain⟨A1,h⟩:=h.pop
 obtain⟨A2,h⟩:=h.pop
 exact⟨F,_,h.newl r hp⟩
end
abbrev H_(K:Frag):R2:=fun x y H Q=>(∃i j,x=.int i∧y=.int j∧Q (.int (i+j)) H)∨(∃i j,x=.str i∧y=.str j∧i.length+j.length≤sizeLine∧Q (.str (i++j)) H)∨HZ K x y H Q
theorem GC:OpR X (binaryOp .Add) (H_ X.K):=OpR.or IN (OpR.or zD GA)
theorem GD{K:Frag}:lr K (H_ K) aQ:=by
 intro B F A σ H E xs Xs v1 v2 s1 s2 res E' Q fr e q
 obtain⟨d1,e1,e⟩:=Za.mp e
 obtain⟨d2,e2,e⟩:=Za.mp e
 have r1:=(fr.look1 e1).1
 have r2:=(fr.look0 e2).1
 split at e
 ·cases e;cases r1;cases r2
  exact .inl ⟨_,_,rfl,rfl,q _ _ (fr.res2 ⟨rfl,_,rfl,.int _⟩)⟩
 ·split at e
  ·rename_i hl
   cases e;cases r1;cases r2
   exact .inr (.inl ⟨_,_,rfl,rfl,i_ hl,q _ _ (fr.res2 ⟨rfl,_,rfl,.str _⟩)⟩)
  ·cases e
 ·split at e
  ·rename_i hc
   cases e
   simp only[yQ,decide_eq_true_eq]at hc
   obtain⟨a1,u1,x1,q1,i1⟩:=fr.items (k:=1) rfl e1 hc.1.2
   obtain⟨a2,u2,x2,q2,i2⟩:=fr.items (k:=0) rfl e2 hc.2
   cases x1;cases x2
   have l1:=i1.len
   have l2:=i2.len
   exact .inr (.inr ⟨_,_,_,_,rfl,rfl,q1,q2,i_ (by omega),fun p hp=>q _ _ (fr.res2l (i1.append i2) hp)⟩)
  ·cases e
 ·cases e
def qB:P2:=hJ (yS (fun _ _=>true) fun i j=>.int (i - j))
def cR:P2:=hJ (yS (fun _ j=>kW j) fun i j=>.int (i / j))
def ef:P2:=hJ (yS (fun _ j=>decide (0 < j)) fun i j=>.int (i % j))
def qC:P2:=hJ (yS (fun i j=>decide (0≤j∧j≤1000000∧ -(2 ^ 64) < i∧i < 2 ^ 64)) fun i j=>.int (i ^ j.toNat))
section
variable {X:Cx}
theorem GE:OpR X (binaryOp .Sub) (HY (fun _ _=>true) fun i j=>.int (i - j)):=OpR.imp IO fun x y H Q ⟨i,j,a,b,_,q⟩=>⟨i,j,a,b,q⟩
theorem DV:OpR X (binaryOp .FloorDiv) (HY (fun _ j=>kW j) fun i j=>.int (i / j)):=KG fun i j _ _ _ _ _ hc q=>by
 obtain⟨h1,h2⟩:=zz5 hc
 have h3:j.natAbs.log2 < 9000:=by
  have:j.natAbs < 2 ^ 200:=by omega
  have:=(Nat.log2_lt (n:=j.natAbs) (k:=200) (by omega)).mpr this
  omega
 exact floordiv_int (by omega) (by rw[Int.fdiv_eq_ediv_of_nonneg i (by omega)];exact q) (.inl (PyProof.noPylong_of_log2 h3))
theorem GF:OpR X (binaryOp .Mod) (HY (fun _ j=>decide (0 < j)) fun i j=>.int (i % j)):=OpR.imp IQ fun x y H Q ⟨i,j,a,b,c,q⟩=>⟨i,j,a,b,zz5 c,q⟩
theorem GG{i j:Int}(c:0≤j∧j≤1000000∧ -(2 ^ 64) < i∧i < 2 ^ 64):KH i j:=⟨c.1,c.2.1,by omega⟩
theorem GH:OpR X (binaryOp .Pow) (HY (fun i j=>decide (0≤j∧j≤1000000∧ -(2 ^ 64) < i∧i < 2 ^ 64)) fun i j=>.int (i ^ j.toNat)):=OpR.imp IR fun x y H Q ⟨i,j,a,b,c,q⟩=>⟨i,j,a,b,GG (zz5 c),q⟩
end
def ip:P2:=fun E s1 s2=>(look E s1).bind fun d1=>(look E s2).bind fun d2=>match d1,d2 with
 |.int i,.int j=>if gw i j then some (.sh (.int (i*j)),E)else none
 |.list a,.int k=>if decide (a.length*k.toNat≤1000000∧ -1000000≤k∧k≤1000000)&&(!oh E s1||bg a)then some (.ow (List.replicate k.toNat a).flatten,E)else none
 |_,_=>none
abbrev Ia(K:Frag):R2:=fun x y H Q=>HY gw (fun i j=>.int (i*j)) x y H Q∨H0 K x y H Q
theorem GI:OpR X (binaryOp .Mult) (Ia X.K):=OpR.or (KG fun _ _ _ _ _ _ _ hc q=>mul_int q (DU hc)) GB
theorem GJ{K:Frag}:lr K (Ia K) ip:=by
 intro B F A σ H E xs Xs v1 v2 s1 s2 res E' Q fr e q
 obtain⟨d1,e1,e⟩:=Za.mp e
 obtain⟨d2,e2,e⟩:=Za.mp e
 have r1:=(fr.look1 e1).1
 have r2:=(fr.look0 e2).1
 split at e
 ·split at e
  ·rename_i hm
   cases e;cases r1;cases r2
   exact .inl ⟨_,_,rfl,rfl,hm,q _ _ (fr.res2 ⟨rfl,_,rfl,.int _⟩)⟩
  ·cases e
 ·split at e
  ·rename_i hc
   cases e
   simp only[yQ,decide_eq_true_eq]at hc
   obtain⟨a1,u1,x1,q1,i1⟩:=fr.items (k:=1) rfl e1 hc.2
   cases x1;cases r2
   have l1:=i1.len
   exact .inr ⟨_,_,_,rfl,rfl,q1,by omega,by omega,i_ (by rw[l1];exact hc.1.1),fun p hp=>q _ _ (fr.res2l (i1.rep _) hp)⟩
  ·cases e
 ·cases e
section
variable {X:Cx} {a b:Expr} {m1 m2:Bool} {f g:aY} {pos:Pos}
theorem aN(ha:EX X a m1 f)(hb:EX X b m2 g):EX X (.BinOp a .Add b pos) (m1||m2) (ag aQ m2 f g):=pX GC GD ha hb
theorem m7(ha:EX X a m1 f)(hb:EX X b m2 g):EX X (.BinOp a .Sub b pos) (m1||m2) (ag qB m2 f g):=pX GE (oZ fun _ _=>rfl) ha hb
theorem gy(ha:EX X a m1 f)(hb:EX X b m2 g):EX X (.BinOp a .Mult b pos) (m1||m2) (ag ip m2 f g):=pX GI GJ ha hb
theorem e_(ha:EX X a m1 f)(hb:EX X b m2 g):EX X (.BinOp a .FloorDiv b pos) (m1||m2) (ag cR m2 f g):=pX DV (oZ fun _ _=>rfl) ha hb
theorem dN(ha:EX X a m1 f)(hb:EX X b m2 g):EX X (.BinOp a .Mod b pos) (m1||m2) (ag ef m2 f g):=pX GF (oZ fun _ _=>rfl) ha hb
theorem rD(ha:EX X a m1 f)(hb:EX X b m2 g):EX X (.BinOp a .Pow b pos) (m1||m2) (ag qC m2 f g):=pX GH (oZ fun _ _=>rfl) ha hb
end
def MC(K:Frag)(r:V→Hp→VK→Prop)(op:PyData→Option PyData):Prop:=∀(d1 d:PyData) (v1:V) (H:Hp) (Q:VK),op d1=some d→Rp K H v1 d1→∃v,HX d=some v∧(Q v H→r v1 H Q)
def mF(op:PyData→Option PyData)(f:aY):aY:=fun E=>(f E).bind fun a=>(look a.2 a.1).bind fun d1=>(op d1).map fun d=>(.sh d,a.2)
theorem K4{K:Frag}{r:V→Hp→VK→Prop}{op:PyData→Option PyData}(hp:MC K r op){f:aY}{σ:o4}{H:Hp}{Q:VK}(h:rd K m (mF op f) σ H Q):rd K m f σ H (fun x H1=>r x H1 Q):=by
 obtain⟨B,E,xs,Xs,res,E',fr,c,e,q⟩:=h
 obtain⟨⟨s1,E1⟩,e1,e⟩:=Za.mp e
 obtain⟨d1,e2,e⟩:=Za.mp e
 obtain⟨d,e3,e⟩:=Zad.mp e
 cases e
 refine⟨B,E,xs,Xs,s1,E1,fr,c,e1,fun v1 H1 ⟨F,A,fr1⟩=>?_⟩
 obtain⟨v,hv,k⟩:=hp d1 d v1 H1 Q e3 (fr1.look0 e2).1
 obtain⟨A',fr2⟩:=fr1.pop
 exact k (q v H1 ⟨F,A',fr2.push ⟨rfl,v,rfl,oY hv⟩⟩)
def B7:PyData→Option PyData
 |.int i=>some (.int (-i))
 |_=>none
section
variable {X:Cx} {a b c:Expr} {m1 m2 m3:Bool} {f g h:aY} {pos:Pos}
theorem u8(ha:EX X a m1 f):EX X (.UnaryOp .USub a pos) m1 (mF B7 f):=bx (KE IU ha) fun σ H Q h=>K4 (r:=rU fun i=>.int (-i)) (fun d1 d v1 H Q e r=>by
 cases d1 <;> simp[B7]at e
 cases e;cases r
 exact⟨_,rfl,fun q=>⟨_,rfl,q⟩⟩) h
end
def AM(d1 d2:PyData):Option Bool:=match d1,d2 with
 |.int i,.int j=>some (decide (i=j))
 |.str a,.str b=>some (decide (a=b))
 |.bool a,.bool b=>some (decide (a=b))
 |.none,.none=>some true
 |.none,.str _=>some false
 |.str _,.none=>some false
 |d1,d2=>if SeqAt.shaped d1&&SeqAt.shaped d2 then some (PyData.eqv d1 d2)else none
def iM:P2:=hJ fun d1 d2=>(AM d1 d2).map fun b=>.bool b
def u9:P2:=hJ fun d1 d2=>(AM d1 d2).map fun b=>.bool (!b)
abbrev MD(K:Frag):R2:=fun x y H Q=>Nk x y H Q∨K0 K x y H Q
abbrev ME(K:Frag):R2:=fun x y H Q=>Nl x y H Q∨K1 K x y H Q
theorem DW{K:Frag}{H:Hp}{d1 d2:PyData}{b:Bool}(e:AM d1 d2=some b)(r1:Rp K H v1 d1)(r2:Rp K H v2 d2):
  (IV v1 v2=true∧decide (v1=v2)=b)∨(DOf K H v1 d1∧DOf K H v2 d2∧SeqAt.shaped d1=true∧SeqAt.shaped d2=true∧PyData.eqv d1 d2=b):=by
 unfold AM at e
 split at e
 ·cases e;cases r1;cases r2;exact .inl ⟨rfl,by simp⟩
 ·cases e;cases r1;cases r2;exact .inl ⟨rfl,by simp⟩
 ·cases e;cases r1;cases r2;exact .inl ⟨rfl,by simp⟩
 ·cases e;cases r1;cases r2;exact .inl ⟨rfl,rfl⟩
 ·cases e;cases r1;cases r2;exact .inl ⟨rfl,rfl⟩
 ·cases e;cases r1;cases r2;exact .inl ⟨rfl,rfl⟩
 ·split at e
  ·rename_i hs
   cases e
   simp only[yQ]at hs
   exact .inr ⟨r1.dof hs.1,r2.dof hs.2,hs.1,hs.2,rfl⟩
  ·cases e
theorem DY{K:Frag}:lr K (MD K) iM:=lz fun d1 d2 d v1 v2 H Q e r1 r2=>by
 obtain⟨b,e',rfl⟩:=Zad.mp e
 refine⟨_,rfl,fun q=>?_⟩
 rcases DW e' r1 r2 with⟨a,rfl⟩ |⟨a1,a2,a3,a4,rfl⟩
 ·exact .inl ⟨a,q⟩
 ·exact .inr ⟨_,_,a1,a2,a3,a4,q⟩
theorem Jm{K:Frag}:lr K (ME K) u9:=lz fun d1 d2 d v1 v2 H Q e r1 r2=>by
 obtain⟨b,e',rfl⟩:=Zad.mp e
 refine⟨_,rfl,fun q=>?_⟩
 rcases DW e' r1 r2 with⟨a,rfl⟩ |⟨a1,a2,a3,a4,rfl⟩
 ·exact .inl ⟨a,q⟩
 ·exact .inr ⟨_,_,a1,a2,a3,a4,q⟩
def wG(K:Frag)(r:R2)(op:PyData→PyData→Option PyData):Prop:=∀(d1 d2 d:PyData) (v1 v2:V) (H:Hp) (Q:VK),op d1 d2=some d→Rp K H v1 d1→Rp K H v2 d2→∃v,HX d=some v∧(Q v H→r v1 v2 H Q)
def m8(op op':PyData→PyData→Option PyData)(m2 m3:Bool)(f g h:aY):aY:=fun E=>(f E).bind fun a=>if (m2||m3)&&a.1.isBr then none else (g a.2).bind fun b=>if m3&&b.1.isBr then none else
 (look b.2 a.1).bind fun d1=>(look b.2 b.1).bind fun d2=>match op d1 d2 with
  |some (.bool true)=>(h b.2).bind fun c=>(look c.2 b.1).bind fun d2=>(look c.2 c.1).bind fun d3=>(op' d2 d3).map fun d=>(.sh d,c.2)
  |some (.bool false)=>some (.sh (.bool false),b.2)
  |_=>none
section
variable {X:Cx} {a b c:Expr} {m1 m2 m3:Bool} {f g h:aY} {pos:Pos}
theorem tX(hu:X.A.units+64 < cLine)(ha:EX X a m1 f)(hb:EX X b m2 g):EX X (.Compare a [.Eq] [b] pos) (m1||m2) (ag iM m2 f g):=zI (OpR.or HS (DO hu)) DY ha hb (uN _)
theorem iq(hu:X.A.units+64 < cLine)(ha:EX X a m1 f)(hb:EX X b m2 g):TX X (.Compare a [.Eq] [b] pos) (m1||m2) (dW (ag iM m2 f g)):=rC (OpR.or HS (DO hu)) DY ha hb (uN _)
theorem pZ(hu:X.A.units+64 < cLine)(ha:EX X a m1 f)(hb:EX X b m2 g):TX X (.Compare a [.NotEq] [b] pos) (m1||m2) (dW (ag u9 m2 f g)):=rC (OpR.or KI (Jg hu)) Jm ha hb (uN _)
theorem wH{K:Frag}{r:R2}{op:PyData→PyData→Option PyData}(k:wG K r op)(k':wG K r' op'){σ:o4}{H:Hp}{Q:VK}(z:rd K (m1||(m2||m3)) (m8 op op' m2 m3 f g h) σ H Q):zB r r' (rd K m1 f) (rd K m2 g) (rd K m3 h) σ H Q:=by
 obtain⟨B,E,xs,Xs,res,E',fr,cl,e,q⟩:=z
 obtain⟨⟨s1,E1⟩,e1,e⟩:=Za.mp e
 by_cases hb:((m2||m3)&&s1.isBr)=true
 ·rw[if_pos hb]at e;cases e
 rw[if_neg hb]at e
 obtain⟨⟨s2,E2⟩,e2,e⟩:=Za.mp e
 by_cases hb2:(m3&&s2.isBr)=true
 ·rw[if_pos hb2]at e;cases e
 rw[if_neg hb2]at e
 obtain⟨d1,l1,e⟩:=Za.mp e
 obtain⟨d2,l2,e⟩:=Za.mp e
 have n1:(m2||m3)=true→s1.isBr=false:=fun z=>by
  cases hs:s1.isBr with
  |false=>rfl
  |true=>exact absurd (by rw[z,hs];rfl) hb
 have n2:m3=true→s2.isBr=false:=fun z=>by
  cases hs:s2.isBr with
  |false=>rfl
  |true=>exact absurd (by rw[z,hs];rfl) hb2
 refine⟨B,E,xs,Xs,s1,E1,fr,fun z=>cl (by simp[z]),e1,fun v1 H1 fr1=>?_⟩
 refine⟨B,E1,v1::xs,s1::Xs,s2,E2,fr1,fun z=>Calm.cons (cl (by simp[z])) (n1 (by simp[z])),e2,fun v2 H2 ⟨F,A,fr2⟩=>?_⟩
 cases ho:op d1 d2 with
 |none=>rw[ho]at e;cases e
 |some d=>
  rw[ho]at e
  obtain⟨v,hv,kk⟩:=k d1 d2 d v1 v2 H2 (fun z H3=>∃k,z=.bl k∧(if k=true then rd K m3 h σ H3 fun w' H4=>r' v2 w' H4 Q else Q (.bl false) H3)) ho (fr2.look1 l1).1 (fr2.look0 l2).1
  cases d with
  |bool t=>
   cases hv
   refine kk ⟨t,rfl,?_⟩
   cases t with
   |true=>
    rw[if_pos rfl]
    obtain⟨⟨s3,E3⟩,e3,e⟩:=Za.mp e
    obtain⟨d2',l2',e⟩:=Za.mp e
    obtain⟨d3,l3,e⟩:=Za.mp e
    obtain⟨d,ho',e⟩:=Zad.mp e
    cases e
    refine⟨B,E2,v2::v1::xs,s2::s1::Xs,s3,E3,⟨F,A,fr2⟩,fun z=>Calm.cons (Calm.cons (cl (by simp[z])) (n1 (by simp[z]))) (n2 z),e3,fun v3 H3 ⟨F3,A3,fr3⟩=>?_⟩
    obtain⟨v,hv,kk⟩:=k' d2' d3 d v2 v3 H3 Q ho' (fr3.look1 l2').1 (fr3.look0 l3).1
    obtain⟨A4,fr4⟩:=fr3.pop
    exact kk (q v H3 (fr4.res2 ⟨rfl,v,rfl,oY hv⟩))
   |false=>
    rw[if_neg (by decide)]
    cases e
    exact q _ _ (fr2.res2 ⟨rfl,_,rfl,.bl _⟩)
  |none=>cases e
  |int i=>cases e
  |str x=>cases e
  |list xs=>cases e
  |tuple xs=>cases e
  |dict kvs=>cases e
theorem DZ{o1 o2:CmpOp}{r:R2}{op:PyData→PyData→Option PyData}(ho:OpR X (compareOp o1) r)(ho':OpR X (compareOp o2) r')(k:wG X.K r op)(k':wG X.K r' op')(ha:EX X a m1 f)(hb:EX X b m2 g)(hc:EX X c m3 h)
  (hm:lastMarks [o1,o2] [b,c]=false:=by with_unfolding_all rfl):EX X (.Compare a [o1,o2] [b,c] pos) (m1||(m2||m3)) (m8 op op' m2 m3 f g h):=bx (DA ho ho' ha hb hc hm) fun _ _ _ z=>wH k k' z
end
end PL
variable {σ:PL.o4}
namespace PL
open PySem L2 Nh
def rE(f g:aY):aY:=fun E=>(f E).bind fun a=>match a.1 with
 |.sh (.bool true)=>g a.2
 |.sh (.bool false)=>some (.sh (.bool false),a.2)
 |_=>none
def D0(f g:lq):lq:=fun E=>(f E).bind fun a=>if a.1 then g a.2 else some (false,a.2)
def qD(f g:lq):lq:=fun E=>(f E).bind fun a=>if a.1 then some (true,a.2)else g a.2
def iN(f:lq):lq:=fun E=>(f E).map fun a=>(!a.1,a.2)
def qE:PyData→Option Bool
 |.none=>some false
 |.bool b=>some b
 |.int i=>some (i != 0)
 |.str x=>if x.length≤1000000 then some ((x.length:Int) != 0)else none
 |.list xs=>some (!xs.isEmpty)
 |.tuple xs=>some (!xs.isEmpty)
 |.dict _=>none
def ir(f:aY):lq:=fun E=>(f E).bind fun a=>match a.1 with
 |.al i=>match a.2[i]? with
  |some (.od kvs)=>some (!kvs.isEmpty,a.2)
  |some s=>(s.val.bind qE).map fun b=>(b,a.2)
  |none=>none
 |s=>(s.val.bind qE).map fun b=>(b,a.2)
section
variable {X:Cx} {a b c:Expr} {dv:List Expr} {m1 m2 m3:Bool} {f g h:aY} {t u:lq} {pos:Pos} {K:Frag}
theorem D1{op}(h:EX X a m1 f):EX X (.BoolOp op [a] pos) m1 f:=IC h
theorem zJ(ha:EX X a m1 f)(hb:EX X (.BoolOp .And (b::dv) pos) m2 g):EX X (.BoolOp .And (a::b::dv) pos) (m1||m2) (rE f g):=by
 refine bx (ID ha hb) fun σ H Q z=>?_
 obtain⟨B,E,xs,Xs,res,E',fr,cl,e,q⟩:=z
 obtain⟨⟨s1,E1⟩,e1,e⟩:=Za.mp e
 refine⟨B,E,xs,Xs,s1,E1,fr,fun z=>cl (by simp[z]),e1,fun v1 H1 ⟨F,A,fr1⟩=>?_⟩
 simp only at e
 split at e
 ·obtain⟨r,_⟩:=fr1.look0 (d:=.bool true) rfl
  cases r
  obtain⟨A',fr2⟩:=fr1.pop
  exact⟨true,rfl,(if_pos rfl).mpr ⟨B,E1,xs,Xs,res,E',⟨F,A',fr2⟩,fun z=>cl (by simp[z]),e,q⟩⟩
 ·cases e
  obtain⟨r,_⟩:=fr1.look0 (d:=.bool false) rfl
  cases r
  exact⟨false,rfl,(if_neg (by decide)).mpr (q _ _ ⟨F,A,fr1⟩)⟩
 ·cases e
theorem AN(ha:TX X a m1 t):WX X (.BoolOp .And [a] pos) m1 t:=Gb ha
theorem u_(ha:TX X a m1 t):WX X (.BoolOp .Or [a] pos) m1 t:=Iy ha
theorem D2(ha:TX X a m1 t)(hb:WX X (.BoolOp .And (b::dv) pos) m2 u):WX X (.BoolOp .And (a::b::dv) pos) (m1||m2) (D0 t u):=by
 refine DS (Iz ha hb) fun σ H Q z=>?_
 obtain⟨B,E,xs,Xs,res,E',fr,cl,e,q⟩:=z
 obtain⟨⟨b1,E1⟩,e1,e⟩:=Za.mp e
 refine⟨B,E,xs,Xs,b1,E1,fr,fun z=>cl (by simp[z]),e1,fun H1 fr1=>?_⟩
 cases b1 with
 |true=>exact(if_pos rfl).mpr ⟨B,E1,xs,Xs,res,E',fr1,fun z=>cl (by simp[z]),e,q⟩
 |false=>cases e;exact(if_neg (by decide)).mpr (q _ fr1)
theorem wI(ha:TX X a m1 t)(hb:WX X (.BoolOp .Or (b::dv) pos) m2 u):WX X (.BoolOp .Or (a::b::dv) pos) (m1||m2) (qD t u):=by
 refine DS (Kp ha hb) fun σ H Q z=>?_
 obtain⟨B,E,xs,Xs,res,E',fr,cl,e,q⟩:=z
 obtain⟨⟨b1,E1⟩,e1,e⟩:=Za.mp e
 refine⟨B,E,xs,Xs,b1,E1,fr,fun z=>cl (by simp[z]),e1,fun H1 fr1=>?_⟩
 cases b1 with
 |true=>cases e;exact(if_pos rfl).mpr (q _ fr1)
 |false=>exact(if_neg (by decide)).mpr ⟨B,E1,xs,Xs,res,E',fr1,fun z=>cl (by simp[z]),e,q⟩
theorem B8(h:WX X a m1 t):TX X a m1 t:=PW.pt h
theorem m9(ha:TX X a m1 t):TX X (.UnaryOp .Not a pos) m1 (iN t):=by
 refine u5 (IB ha) fun σ H Q z=>?_
 obtain⟨B,E,xs,Xs,res,E',fr,cl,e,q⟩:=z
 obtain⟨⟨b1,E1⟩,e1,e⟩:=Zad.mp e
 cases e
 exact⟨B,E,xs,Xs,b1,E1,fr,cl,e1,fun H1 fr1=>q _ fr1⟩
theorem Jo{H:Hp}{v:V}{b:Bool}(r:Rp K H v d)(e:qE d=some b):DC K v H b:=by
 cases r with
 |non=>cases e;rfl
 |bl b=>cases e;rfl
 |int i=>cases e;rfl
 |str x=>
  simp only[qE]at e
  split at e
  ·rename_i hl
   cases e
   exact⟨i_ hl,rfl⟩
  ·cases e
 |lst h r=>cases e;exact .inl ⟨_,h,by cases r <;> rfl⟩
 |tup h r=>cases e;exact .inr (.inl ⟨_,h,by cases r <;> rfl⟩)
 |dct h r=>cases e
 |exc h r=>cases e
theorem gT(ha:EX X a m1 f)(he:∀whole,isTrue a X.env whole=(do let v ←whole;standAt a.pos;holding [v] (truthy v)):=by exact fun _=>rfl):TX X a m1 (ir f):=by
 refine u5 (DD ha he) fun σ H Q z=>?_
 obtain⟨B,E,xs,Xs,res,E',fr,cl,e,q⟩:=z
 obtain⟨⟨s,E1⟩,e1,e⟩:=Za.mp e
 refine⟨B,E,xs,Xs,s,E1,fr,cl,e1,fun v1 H1 ⟨F,A,fr1⟩=>?_⟩
 have key:∀d,look E1 s=some d→(qE d).map (fun b=>(b,E1))=some (res,E')→∃k,DC X.K v1 H1 k∧Q k H1:=fun d l e=>by
  obtain⟨b,e',z⟩:=Zad.mp e
  cases z
  obtain⟨A',fr2⟩:=fr1.pop
  exact⟨_,Jo (fr1.look0 l).1 e',q _ ⟨F,A',fr2⟩⟩
 have kv:(s.val.bind qE).map (fun b=>(b,E1))=some (res,E')→(∀i,s≠ .al i)→∃k,DC X.K v1 H1 k∧Q k H1:=fun e na=>by
  obtain⟨b,e',z⟩:=Zad.mp e
  obtain⟨d,e1,e2⟩:=Za.mp e'
  refine key d ?_ (by rw[e2];exact congrArg some z)
  cases s <;> first |exact e1 |exact absurd rfl (na _)
 simp only at e
 split at e
 ·rename_i i
  split at e
  ·rename_i kvs ei
   cases e
   obtain⟨v',A1,ev,rfl,w,ew,hw⟩:=fr1.ext (k:=0) rfl
   cases ev;cases ew
   obtain⟨o,A1,eo,l,us,A2,rfl,_,hl,r⟩:=fr1.var ei
   rw[hw]at eo
   cases eo
   obtain⟨A',fr2⟩:=fr1.pop
   exact⟨_,.inr (.inr ⟨_,hl,by cases us <;> cases kvs <;> first |rfl |exact False.elim r⟩),q _ ⟨F,A',fr2⟩⟩
  ·rename_i s' _ ei
   obtain⟨b,e',z⟩:=Zad.mp e
   obtain⟨d,e1,e2⟩:=Za.mp e'
   exact key d (by simp[look,ei,e1]) (by rw[e2];exact congrArg some z)
  ·cases e
 ·rename_i na
  exact kv e na
end
theorem D3{a b c:Expr}{f g h:aY}{pos:Pos}{o1 o2:CmpOp}{r:R2}{op:PyData→PyData→Option PyData}(ho:OpR X (compareOp o1) r)(ho':OpR X (compareOp o2) r')(k:wG X.K r op)(k':wG X.K r' op')(ha:EX X a m1 f)(hb:EX X b m2 g)(hc:EX X c m3 h)
  (hm:lastMarks [o1,o2] [b,c]=false:=by with_unfolding_all rfl):TX X (.Compare a [o1,o2] [b,c] pos) (m1||(m2||m3)) (dW (m8 op op' m2 m3 f g h)):=u5 (DB ho ho' ha hb hc hm) fun _ _ _ z=>wH k k' (DT z)
def ao:rB:=fun E=>some ([],E)
def af(m2:Bool)(f:aY)(g:rB):rB:=fun E=>(f E).bind fun a=>if m2&&a.1.isBr then none else (g a.2).map fun b=>(a.1::b.1,b.2)
def bE:oi:=fun E=>some ([],E)
def aO(f:aY)(g:oi):oi:=fun E=>(f E).bind fun a=>(frz a.2 a.1).bind fun b=>(g b.2).map fun c=>(b.1::c.1,c.2)
def tD(f:oi):aY:=fun E=>(f E).bind fun a=>if a.1.length≤1000000 then some (.sh (.tuple a.1),a.2)else none
def cb(f:oi):aY:=fun E=>(f E).bind fun a=>if a.1.length≤1000000 then some (.ow a.1,a.2)else none
section
variable {X:Cx} {e:Expr} {es:List Expr} {m1 m2:Bool} {f:aY} {g:rB} {d:oi} {pos:Pos} {K:Frag}
theorem au:AX X [] false ao:=by
 refine u6 eY fun σ H Q z=>?_
 obtain⟨B,E,xs,Xs,res,E',fr,cl,e,q⟩:=z
 cases e
 exact q [] H rfl fr
theorem ah(ha:EX X e m1 f)(hr:AX X es m2 g)(hs:starEach (e::es) X.env=(false,eval e X.env)::starEach es X.env:=by rfl):AX X (e::es) (m1||m2) (af m2 f g):=by
 refine u6 (cw ha hr hs) fun σ H Q z=>?_
 obtain⟨B,E,xs,Xs,res,E',fr,cl,e,q⟩:=z
 obtain⟨⟨s,E1⟩,e1,e⟩:=Za.mp e
 by_cases hb:(m2&&s.isBr)=true
 ·rw[if_pos hb]at e;cases e
 rw[if_neg hb]at e
 obtain⟨⟨rs,E2⟩,e2,e⟩:=Zad.mp e
 cases e
 refine⟨B,E,xs,Xs,s,E1,fr,fun z=>cl (by simp[z]),e1,fun v1 H1 fr1=>?_⟩
 refine⟨B,E1,v1::xs,s::Xs,rs,E2,fr1,fun z=>Calm.cons (cl (by simp[z])) ?_,e2,fun vs H2 hl fr2=>?_⟩
 ·cases hs:s.isBr with
  |false=>rfl
  |true=>exact absurd (by simp[z,hs]) hb
 ·exact q (v1::vs) H2 (by simp[hl]) (by simpa using fr2)
theorem a_:DX X [] false bE:=by
 refine u6 eY fun σ H Q z=>?_
 obtain⟨B,E,xs,Xs,res,E',fr,cl,e,q⟩:=z
 cases e
 exact q [] H rfl fr
theorem aF(ha:EX X e m1 f)(hr:DX X es m2 d)(hs:starEach (e::es) X.env=(false,eval e X.env)::starEach es X.env:=by rfl):DX X (e::es) (m1||m2) (aO f d):=by
 refine u6 (cw ha hr hs) fun σ H Q z=>?_
 obtain⟨B,E,xs,Xs,res,E',fr,cl,e,q⟩:=z
 obtain⟨⟨s,E1⟩,e1,e⟩:=Za.mp e
 obtain⟨⟨d1,E2⟩,e2,e⟩:=Za.mp e
 obtain⟨⟨rs,E3⟩,e3,e⟩:=Zad.mp e
 cases e
 refine⟨B,E,xs,Xs,s,E1,fr,fun z=>cl (by simp[z]),e1,fun v1 H1 ⟨F,A,fr1⟩=>?_⟩
 obtain⟨F2,A2,fr2⟩:=fr1.frz0 e2
 refine⟨B,E2,v1::xs,.sh d1::Xs,rs,E3,⟨F2,A2,fr2⟩,fun z=>Calm.cons (cl (by simp[z])) rfl,e3,fun vs H2 hl fr2=>?_⟩
 exact q (v1::vs) H2 (by simp[hl]) (by simpa using fr2)
theorem FrF.shsR{B:Hp}{H:Hp}:∀{us:List V} {es:List PyData} {A:List Addr},us.length=es.length→FrF K B F A σ H E (us++xs) (es.map .sh++Xs)→RpA K F us es∧∃A',FrF K B F A' σ H E xs Xs
 |[],[],A,_,h=>⟨.nil,A,h⟩
 |u::us,e::es,A,hl,h=>by
  obtain⟨v,A1,ev,rfl,w,ew,r⟩:=h.ext (k:=0) rfl
  cases ev;cases ew
  obtain⟨A',h'⟩:=FrF.pop (xs:=us++xs) (Xs:=es.map .sh++Xs) h
  obtain⟨r',q⟩:=FrF.shsR (by simpa using hl) h'
  exact⟨.cons r r',q⟩
 |[],_::_,_,e,_=>by cases e
 |_::_,[],_,e,_=>by cases e
theorem FrF.shs{B:Hp}{H:Hp}{us:List V}{es:List PyData}{A:List Addr}(hl:us.length=es.length)(h:FrF K B F A σ H E (us.reverse++xs) (es.reverse.map .sh++Xs)):RpA K F us es∧∃A',FrF K B F A' σ H E xs Xs:=by
 obtain⟨r,q⟩:=FrF.shsR (by simpa using hl) h
 have:=r.rev
 rw[List.reverse_reverse,List.reverse_reverse]at this
 exact⟨this,q⟩
theorem lA{x1}(h:DX X es m1 d):EX X (.Tuple es x1 pos) m1 (tD d):=by
 refine bx (IZ h) fun σ H Q z=>?_
 obtain⟨B,E,xs,Xs,res,E',fr,cl,e,q⟩:=z
 obtain⟨⟨ds,E1⟩,e1,e⟩:=Za.mp e
 simp only at e
 split at e
 ·rename_i hl
  cases e
  refine⟨B,E,xs,Xs,ds,_,fr,cl,e1,fun vs H1 hv ⟨F,A,fr1⟩=>?_⟩
  obtain⟨r,A',fr2⟩:=fr1.shs hv
  exact⟨i_ (by omega),fun p hp=>q _ _ ⟨_,_,fr2.newt r hp⟩⟩
 ·cases e
theorem bO(h:DX X es m1 d):EX X (.List es pos) m1 (cb d):=by
 refine bx (I_ h) fun σ H Q z=>?_
 obtain⟨B,E,xs,Xs,res,E',fr,cl,e,q⟩:=z
 obtain⟨⟨ds,E1⟩,e1,e⟩:=Za.mp e
 simp only at e
 split at e
 ·rename_i hl
  cases e
  refine⟨B,E,xs,Xs,ds,_,fr,cl,e1,fun vs H1 hv ⟨F,A,fr1⟩=>?_⟩
  obtain⟨r,A',fr2⟩:=fr1.shs hv
  exact⟨i_ (by omega),fun p hp=>q _ _ ⟨_,_,fr2.newl r hp⟩⟩
 ·cases e
end
def B9(ds:List PyData)(lo hi:Option Int):List PyData:=(ds.drop (HT.qz ds.length 0 lo)).take (HT.qz ds.length ds.length hi - HT.qz ds.length 0 lo)
def mG:P2:=fun E s1 s2=>(look E s1).bind fun d1=>(look E s2).bind fun d2=>match d2 with
 |.int i=>match d1 with
  |.list ds=>(atI ds i).map fun d=>(if oh E s1&& !fO d then .br d else .sh d,E)
  |.tuple ds=>(atI ds i).map fun d=>(if oh E s1&& !fO d then .br d else .sh d,E)
  |.str z=>if z.length≤1000000 then (atI z.cps.toList i).map fun c=>(.sh (.str ⟨#[c]⟩),E)else none
  |_=>none
 |_=>none
section
variable {K:Frag} {H:Hp}
theorem RpA.atI{vs:List V}{i:Int}(h:RpA K H vs ds)(e:L2.atI ds i=some d):∃v,L2.atI vs i=some v∧Rp K H v d:=by
 unfold L2.atI at e ⊢
 obtain⟨j,e1,e2⟩:=Za.mp e
 obtain⟨v,ev,r⟩:=h.get e2
 exact⟨v,by rw[h.len,e1];exact ev,r⟩
theorem FrF.item{B:Hp}{A:List Addr}{v:V}(fr:FrF K B F A σ H E (v2::v1::xs) (s2::s1::Xs))(r:Rp K H v d)(f:oh E s1=false→Rp K F v d):
  Frm K B σ H E (v::xs) ((if oh E s1&& !fO d then .br d else .sh d)::Xs):=by
 by_cases hc:(oh E s1&& !fO d)=true
 ·rw[if_pos hc]
  exact fr.res2 ⟨rfl,v,rfl,r⟩
 ·rw[if_neg hc]
  refine fr.res2 ⟨rfl,v,rfl,?_⟩
  cases hh:oh E s1 with
  |false=>exact f hh
  |true=>
   rw[hh]at hc
   exact fr.cold r (by simpa using hc)
theorem Jp:lr K (Nm K) mG:=by
 intro B F A σ H E xs Xs v1 v2 s1 s2 res E' Q fr e q
 obtain⟨d1,e1,e⟩:=Za.mp e
 obtain⟨d2,e2,e⟩:=Za.mp e
 obtain⟨r1,f1⟩:=fr.look1 e1
 have r2:=(fr.look0 e2).1
 split at e
 ·cases r2
  split at e
  ·obtain⟨d,ed,e⟩:=Zad.mp e
   cases e
   cases hh:oh E s1 with
   |false=>
    obtain⟨a,vs,rfl,h1,h2⟩:=f1 hh
    obtain⟨v,ev,rv⟩:=h2.atI ed
    have z:=fr.item (rv.same fr.fh) fun _=>rv
    rw[hh]at z q
    exact .inl ⟨_,_,_,v,rfl,rfl,h1,ev,q _ _ z⟩
   |true=>
    cases r1 with
    |lst h1 h2=>
     obtain⟨v,ev,rv⟩:=h2.atI ed
     have z:=fr.item rv fun h=>absurd (hh.symm.trans h) (by decide)
     rw[hh]at z q
     exact .inl ⟨_,_,_,v,rfl,rfl,h1,ev,q _ _ z⟩
  ·obtain⟨d,ed,e⟩:=Zad.mp e
   cases e
   cases hh:oh E s1 with
   |false=>
    have h0:Rp K F v1 _:=f1 hh
    cases h0 with
    |tup h1 h2=>
     obtain⟨v,ev,rv⟩:=h2.atI ed
     have z:=fr.item (rv.same fr.fh) fun _=>rv
     rw[hh]at z q
     exact .inr (.inl ⟨_,_,_,v,rfl,rfl,fr.fh.tup h1,ev,q _ _ z⟩)
   |true=>
    cases r1 with
    |tup h1 h2=>
     obtain⟨v,ev,rv⟩:=h2.atI ed
     have z:=fr.item rv fun h=>absurd (hh.symm.trans h) (by decide)
     rw[hh]at z q
     exact .inr (.inl ⟨_,_,_,v,rfl,rfl,h1,ev,q _ _ z⟩)
  ·split at e
   ·rename_i hl
    obtain⟨c,ec,e⟩:=Zad.mp e
    cases e;cases r1
    exact .inr (.inr ⟨_,_,c,rfl,rfl,i_ hl,ec,q _ _ (fr.res2 ⟨rfl,_,rfl,.str _⟩)⟩)
   ·cases e
  ·cases e
 ·cases e
end
end PL
namespace L2
open PySem PySem.Spec PyProof.Rows
abbrev KT(H:Hp):List (List lh×V)→List (List lh×Addr×Value)→Prop:=Paired fun p q=>p.1=q.1∧H q.2.1=some (.tup (p.1.map kV))∧RelV p.2 q.2.2
section
variable {P:Program} {w:World} {H:Hp} {h:Heap} {a:Addr}
theorem K5{u:HO}(ok:HOk P w H h)(e:Rd H a u):ObjOk P w H h a u:=e.ok ok
theorem K6{kvs:List (lh×V)}(ok:HOk P w H h)(e:Rd H a (.dK kvs)):kvs.length≤sizeLine∧(a == sysModules)=false∧∃vs,KV kvs vs∧h.DictOf (qN P w) a vs:=
 show ObjOk P w H h a (.dK kvs)from K5 ok e
end
end L2
namespace PL
open PySem L2 Nh
theorem gz{a b:Expr}{f g:aY}{pos:Pos}(ha:EX X a m1 f)(hb:EX X b m2 g)(hs:AD b:=by exact fun _ _=>rfl):EX X (.Subscript a b pos) (m1||m2) (ag mG m2 f g):=bx (KQ Jc ha hb hs) fun _ _ _ h=>u7 Jp h
abbrev Ib:=List Sl→Option (Option Int×List Sl)
def ro(K:Frag)(m:Bool)(f:Ib):TO:=fun σ H Q=>∃B E xs Xs o E',Frm K B σ H E xs Xs∧(m=true→Calm Xs)∧f E=some (o,E')∧∀H',Frm K B σ H' E' xs Xs→Q o H'
def OX(X:Cx)(e:Option Expr)(m:Bool)(f:Ib):Prop:=PO X e (ro X.K m f)
def eB:Ib:=fun E=>some (none,E)
def bJ(f:aY):Ib:=fun E=>(f E).bind fun a=>match look a.2 a.1 with
 |some (.int i)=>some (some i,a.2)
 |_=>none
section
variable {X:Cx} {e:Expr} {lo hi:Option Expr} {m1 m2 m3:Bool} {f:aY} {g h:Ib} {pos p2:Pos} {K:Frag}
theorem D4{e:Option Expr}{t t':TO}(h:PO X e t)(k:∀σ H Q,t' σ H Q→t σ H Q):PO X e t':=fun pins s σ H Q I q=>h pins s σ H Q I (k σ H Q q)
theorem hO:OX X none false eB:=D4 Gp fun σ H Q z=>by
 obtain⟨B,E,xs,Xs,res,E',fr,cl,e,q⟩:=z
 cases e
 exact q _ fr
theorem dY(he:EX X e m1 f):OX X (some e) m1 (bJ f):=D4 (Gq he) fun σ H Q z=>by
 obtain⟨B,E,xs,Xs,res,E',fr,cl,e,q⟩:=z
 obtain⟨⟨s,E1⟩,e1,e⟩:=Za.mp e
 refine⟨B,E,xs,Xs,s,E1,fr,cl,e1,fun v1 H1 ⟨F,A,fr1⟩=>?_⟩
 simp only at e
 split at e
 ·rename_i i l
  cases e
  have r:=(fr1.look0 l).1
  cases r
  obtain⟨A',fr2⟩:=fr1.pop
  exact⟨i,rfl,q _ ⟨F,A',fr2⟩⟩
 ·cases e
theorem RpA.cut{vs:List V}(h:RpA K F vs ds)(lo hi:Option Int):RpA K F (BZ vs lo hi) (B9 ds lo hi):=by
 unfold BZ B9
 rw[h.len]
 exact(h.drop _).take _
end
def dZ(E:List Sl):List Sl→Option (List PyData)
 |[]=>some []
 |s::ss=>(look E s).bind fun d=>(dZ E ss).map fun ds=>d::ds
theorem lookA_iff:∀{ss:List Sl} {ds:List PyData},dZ E ss=some ds↔Paired (fun s d=>look E s=some d) ss ds
 |[],ds=>⟨fun h=>by cases h;exact .nil,fun h=>by cases h;rfl⟩
 |s::ss,ds=>by
  constructor
  ·intro h
   obtain⟨d,h1,h⟩:=Za.mp h
   obtain⟨es,h2,h⟩:=Zad.mp h
   cases h
   exact .cons h1 (lookA_iff.mp h2)
  ·intro h
   cases h with
   |cons h1 h2=>simp[dZ,h1,lookA_iff.mpr h2]
theorem B_(h:dZ E ss=some ds):dZ E ss.reverse=some ds.reverse:=lookA_iff.mpr (m4 (lookA_iff.mp h))
section
variable {X:Cx} {K:Frag} {B F:Hp} {σ:o4} {H:Hp} {E:List Sl} {xs:List V} {Xs:List Sl}
theorem FrF.looksR:∀{us:List V} {ts:List Sl} {es:List PyData} {A:List Addr},us.length=ts.length→FrF K B F A σ H E (us++xs) (ts++Xs)→dZ E ts=some es→RpA K H us es∧∃A',FrF K B F A' σ H E xs Xs
 |[],[],es,A,_,h,e=>by cases e;exact⟨.nil,A,h⟩
 |u::us,t::ts,es,A,hl,h,e=>by
  obtain⟨d,h1,e⟩:=Za.mp e
  obtain⟨es',h2,e⟩:=Zad.mp e
  cases e
  have r:=(FrF.look0 (xs:=us++xs) (Xs:=ts++Xs) h h1).1
  obtain⟨A',h'⟩:=FrF.pop (xs:=us++xs) (Xs:=ts++Xs) h
  obtain⟨r',q⟩:=FrF.looksR (by simpa using hl) h' h2
  exact⟨.cons r r',q⟩
 |[],_::_,_,_,e,_,_=>by cases e
 |_::_,[],_,_,e,_,_=>by cases e
theorem FrF.looks{us:List V}{ts:List Sl}{es:List PyData}{A:List Addr}(hl:us.length=ts.length)(h:FrF K B F A σ H E (us.reverse++xs) (ts.reverse++Xs))(e:dZ E ts=some es):RpA K H us es∧∃A',FrF K B F A' σ H E xs Xs:=by
 obtain⟨r,q⟩:=FrF.looksR (by simpa using hl) h (B_ e)
 have:=r.rev
 rw[List.reverse_reverse,List.reverse_reverse]at this
 exact⟨this,q⟩
end
def D5(K:Frag)(r:List V→Hp→VK→Prop)(op:List PyData→Option PyData):Prop:=∀(ds:List PyData) (d:PyData) (vs:List V) (H:Hp) (Q:VK),op ds=some d→RpA K H vs ds→∃v,HX d=some v∧(Q v H→r vs H Q)
def bD(op:List PyData→Option PyData)(g:rB):aY:=fun E=>(g E).bind fun a=>(dZ a.2 a.1).bind fun ds=>(op ds).map fun d=>(.sh d,a.2)
theorem D6{K:Frag}{r:List V→Hp→VK→Prop}{op:List PyData→Option PyData}(hp:D5 K r op){g:rB}{H:Hp}{Q:VK}(h:rd K m (bD op g) σ H Q):Mr r (ra K m g) σ H Q:=by
 obtain⟨B,E,xs,Xs,res,E',fr,cl,e,q⟩:=h
 obtain⟨⟨rs,E1⟩,e1,e⟩:=Za.mp e
 obtain⟨ds,e2,e⟩:=Za.mp e
 obtain⟨d,e3,e⟩:=Zad.mp e
 cases e
 refine⟨B,E,xs,Xs,rs,E1,fr,cl,e1,fun vs H1 hl ⟨F,A,fr1⟩=>?_⟩
 obtain⟨r1,A',fr2⟩:=fr1.looks hl e2
 obtain⟨v,hv,k⟩:=hp ds d vs H1 Q e3 r1
 exact k (q v H1 ⟨F,A',fr2.push ⟨rfl,v,rfl,oY hv⟩⟩)
def fB:List PyData→Option PyData
 |[.list xs]=>some (.int xs.length)
 |[.tuple xs]=>some (.int xs.length)
 |[.str z]=>if z.length≤1000000 then some (.int z.length)else none
 |_=>none
def vp:List PyData→Option PyData
 |[.int i]=>some (.int (if i < 0 then -i else i))
 |_=>none
theorem RpA.one{K:Frag}{H:Hp}{vs:List V}(h:RpA K H vs [d]):∃v,vs=[v]∧Rp K H v d:=by
 cases h with
 |cons h t=>cases t;exact⟨_,rfl,h⟩
theorem RpA.two{K:Frag}{H:Hp}{vs:List V}{e:PyData}(h:RpA K H vs [d,e]):∃v u,vs=[v,u]∧Rp K H v d∧Rp K H u e:=by
 cases h with
 |cons h t=>
  obtain⟨u,rfl,r⟩:=t.one
  exact⟨_,_,rfl,h,r⟩
section
variable {X:Cx} {e:Expr} {es:List Expr} {m1:Bool} {g:rB} {p pos:Pos} {K:Frag}
abbrev K7(K:Frag):List V→Hp→VK→Prop:=fun xs H Q=>(∃p ys,xs=[.ref p]∧(SqL K H p ys∨SqT K H p ys)∧Q (.int ys.length) H)∨(∃z,xs=[.str z]∧z.length≤sizeLine∧Q (.int z.length) H)
theorem GK:D5 K (K7 K) fB:=fun ds d vs H Q e r=>by
 unfold fB at e
 split at e
 ·cases e
  obtain⟨v,rfl,r'⟩:=r.one
  cases r' with
  |lst h1 h2=>exact⟨_,rfl,fun q=>.inl ⟨_,_,rfl,.inl h1,by rw[h2.len];exact q⟩⟩
 ·cases e
  obtain⟨v,rfl,r'⟩:=r.one
  cases r' with
  |tup h1 h2=>exact⟨_,rfl,fun q=>.inl ⟨_,_,rfl,.inr h1,by rw[h2.len];exact q⟩⟩
 ·split at e
  ·rename_i hl
   cases e
   obtain⟨v,rfl,r'⟩:=r.one
   cases r'
   exact⟨_,rfl,fun q=>.inr ⟨_,rfl,i_ hl,q⟩⟩
  ·cases e
 ·cases e
theorem oj{id:String} {r:List V→Hp→VK→Prop} {op:List PyData→Option PyData} (hp:D5 X.K r op) (hc:CallR X (.builtin id) r) (hg:Gl X x) (hm:X.mg x=none) (hv:bootBuiltins x=some (.builtin id)) (ha:AX X (e::es) m1 g) (hn:x≠"__name__":=by decide) (hdb:(x == ("__debug__":Str))=false:=by decide)
  (he:starEach (e::es) X.env=(false,eval e X.env)::starEach es X.env:=by rfl) (hpl:(backTo pos (starEach es X.env)).any (·.1)=false:=by rfl):EX X (.Call (.Name x p) (e::es) [] pos) m1 (bD op g):=
 bx (jT hc hg hm hv ha hn hdb he hpl) fun _ _ _ h=>D6 hp h
theorem gg(hg:Gl X "len") (hm:X.mg "len"=none) (ha:AX X [e] m1 g) (he:starEach [e] X.env=[(false,eval e X.env)]:=by rfl):EX X (.Call (.Name "len" p) [e] [] pos) m1 (bD fB g):=oj GK (CallR.or uS uT) hg hm PySem.boot_len ha (by decide) (by decide) he rfl
theorem D7(hg:Gl X "abs") (hm:X.mg "abs"=none) (ha:AX X [e] m1 g) (he:starEach [e] X.env=[(false,eval e X.env)]:=by rfl):EX X (.Call (.Name "abs" p) [e] [] pos) m1 (bD vp g):=oj (fun ds d vs H Q e r=>by
 unfold vp at e
 split at e
 ·cases e
  obtain⟨v,rfl,r'⟩:=r.one
  cases r'
  exact⟨_,rfl,fun q=>⟨_,rfl,q⟩⟩
 ·cases e) DE hg hm PyProof.Rows.boot_abs ha (by decide) (by decide) he rfl
end
def rF(g:aY):aY:=fun E=>(g E).bind fun a=>match look a.2 a.1 with
 |some (.list ds)=>if !oh a.2 a.1||bg ds then some (.ow ds,a.2)else none
 |some (.tuple ds)=>if !oh a.2 a.1||bg ds then some (.ow ds,a.2)else none
 |_=>none
section
variable {X:Cx} {e:Expr} {m1:Bool} {f:aY} {p pos:Pos} {K:Frag}
theorem GL(hg:Gl X "list") (hm:X.mg "list"=none) (ha:EX X e m1 f) (he:starEach [e] X.env=[(false,eval e X.env)]:=by rfl):EX X (.Call (.Name "list" p) [e] [] pos) m1 (rF f):=by
 refine bx (l6 uU hg hm PyProof.Rows.boot_list (cw ha eY he) (by decide) (by decide) he rfl) fun σ H Q z=>?_
 obtain⟨B,E,xs,Xs,res,E',fr,cl,e,q⟩:=z
 obtain⟨⟨s,E1⟩,e1,e⟩:=Za.mp e
 refine⟨B,E,xs,Xs,s,E1,fr,cl,e1,fun v1 H1 ⟨F,A,fr1⟩=>?_⟩
 obtain⟨A',fr2⟩:=fr1.pop
 simp only at e
 split at e
 ·rename_i ds ld
  split at e
  ·rename_i hc
   cases e
   obtain⟨a,vs,ev,h1,h2⟩:=fr1.items (k:=0) rfl ld hc
   cases ev
   exact⟨a,vs,rfl,.inl h1,fun l hl=>q _ _ ⟨F,_,fr2.newl h2 hl⟩⟩
  ·cases e
 ·rename_i ds ld
  split at e
  ·rename_i hc
   cases e
   obtain⟨r,f0⟩:=fr1.look0 ld
   cases hh:oh E' s with
   |false=>
    have h0:Rp X.K F v1 _:=f0 hh
    cases h0 with
    |tup h1 h2=>exact⟨_,_,rfl,.inr (fr1.fh.tup h1),fun l hl=>q _ _ ⟨F,_,fr2.newl h2 hl⟩⟩
   |true=>
    rw[hh]at hc
    cases r with
    |tup h1 h2=>exact⟨_,_,rfl,.inr h1,fun l hl=>q _ _ ⟨F,_,fr2.newl (fr1.coldA h2 (by simpa using hc)) hl⟩⟩
  ·cases e
 ·cases e
end
inductive Ty where
 |non |bool |int |str |list |tuple |dict
def Ty.name:Ty→String
 |.non=>"NoneType"
 |.bool=>"bool"
 |.int=>"int"
 |.str=>"str"
 |.list=>"list"
 |.tuple=>"tuple"
 |.dict=>"dict"
def Ty.is:Ty→Ty→Bool
 |.non,.non=>true
 |.bool,.bool=>true
 |.bool,.int=>true
 |.int,.int=>true
 |.str,.str=>true
 |.list,.list=>true
 |.tuple,.tuple=>true
 |.dict,.dict=>true
 |_,_=>false
def LW:PyData→Ty
 |.none=>.non
 |.bool _=>.bool
 |.int _=>.int
 |.str _=>.str
 |.list _=>.list
 |.tuple _=>.tuple
 |.dict _=>.dict
theorem K8(K:Frag)(t n:Ty):kitOne K (.type t.name) (.type n.name)=some (t.is n):=by cases t <;> cases n <;> rfl
def vq(n:Ty):PyData→Option PyData
 |.dict ((.none,_)::_)=>none
 |d=>some (.bool ((LW d).is n))
section
variable {X:Cx} {e:Expr} {m1:Bool} {f:aY} {p p2 pos:Pos}
theorem Ca{s:Shared}{H:Hp}{x:V}{u:Value}{r:PyData}{n:Ty}{A:Around}{E:Value→Shared→Prop}(I:Inv X pins σ H s)(rx:RelV x u)(rp:Rp X.K H x d)(hd:vq n d=some r)(h:∀tk b,r=.bool b→Q (.bool b) {s with toks:=tk}):
  wpAny (model X.prog X.w) A (call (.builtin "isinstance") [u,.type n.name]) Q E s:=by
 have e:=K8 X.K (LW d) n
 have h:∀tk,r=.bool ((LW d).is n)→Q (.bool ((LW d).is n)) {s with toks:=tk}:=fun tk z=>h tk _ z
 cases rp with
 |non=>cases hd;exact l5 I rx .non e fun tk=>h tk rfl
 |bl b=>cases hd;exact l5 I rx (.bl b) e fun tk=>h tk rfl
 |int i=>cases hd;exact l5 I rx (.int i) e fun tk=>h tk rfl
 |str y=>cases hd;exact l5 I rx (.str y) e fun tk=>h tk rfl
 |lst h1 _=>
  cases hd
  cases rx
  obtain⟨its,rv,⟨o,n',e1,c,_,d⟩,_⟩:=I.list h1
  exact kia_one kitx_list I.kIn ⟨_,e1,c⟩ e (fun z=>nomatch z) fun tk=>h tk rfl
 |tup h1 _=>
  cases hd
  cases rx
  obtain⟨its,rv,⟨o,e1,c,n',d⟩,_⟩:=I.tuple h1
  exact kia_one PySem.W.kitx_tuple I.kIn ⟨_,e1,c⟩ e (fun z=>nomatch z) fun tk=>h tk rfl
 |dct h1 hk=>
  cases rx
  obtain⟨_,_,vs,_,ob,es,ep,e1,c,_⟩:=K6 I.hok h1
  refine kia_one kitx_dict I.kIn ⟨_,e1,c.1⟩ e (fun z=>nomatch z) fun tk=>h tk ?_
  cases hk with
  |nil=>cases hd;rfl
  | @cons k x us d kvs a b=>cases k <;> (cases hd;rfl)
 |exc h1 h2=>cases hd
theorem Cb(n:Ty):CallR X (.builtin "isinstance") (fun xs H Q=>∃x d r,xs=[x,.ty n.name]∧Rp X.K H x d∧vq n d=some r∧∀b,r=.bool b→Q (.bl b) H):=by
 intro pins s σ H xs us Q I r h
 obtain⟨x,d,r',rfl,rp,hd,q⟩:=h
 obtain⟨u,w',rfl,ru,rw'⟩:=r.two
 cases(show w'=Value.type n.name from rw')
 exact Ca I ru rp hd fun tk b z=>⟨.bl _,H,I.tok _,rfl,q b z⟩
theorem vt(n:Ty) (hg:Gl X "isinstance") (hm:X.mg "isinstance"=none) (ha:EX X e m1 f)  (hgx:Gl X x) (hmx:X.mg x=none) (hbx:bootBuiltins x=some (.type n.name)) (hnx:x≠"__name__":=by decide) (hdx:(x == ("__debug__":Str))=false:=by decide)
  (he:starEach [e,.Name x p2] X.env=(false,eval e X.env)::starEach [.Name x p2] X.env:=by rfl) (yU:starEach [.Name x p2] X.env=[(false,eval (.Name x p2) X.env)]:=by rfl) (hpl:(backTo pos (starEach [.Name x p2] X.env)).any (·.1)=false:=by rfl):
  EX X (.Call (.Name "isinstance" p) [e,.Name x p2] [] pos) m1 (mF (vq n) f):=by
 have h2:PE X (.Name x p2) (tC (.ty n.name)):=Ax (v:=.ty n.name) hgx hmx hbx rfl hnx hdx
 refine bx (jT (Cb n) hg hm PyProof.Rows.boot_isinstance (cw ha (cw h2 eY yU) he) (by decide) (by decide) he hpl) fun σ H Q z=>?_
 obtain⟨B,E,xs,Xs,res,E',fr,cl,e,q⟩:=z
 obtain⟨⟨s,E1⟩,e1,e⟩:=Za.mp e
 obtain⟨d1,e2,e⟩:=Za.mp e
 obtain⟨d2,e3,e⟩:=Zad.mp e
 cases e
 refine⟨B,E,xs,Xs,s,E1,fr,cl,e1,fun v1 H1 ⟨F,A,fr1⟩=>?_⟩
 obtain⟨A',fr2⟩:=fr1.pop
 exact⟨v1,d1,d2,rfl,(fr1.look0 e2).1,e3,fun b z=>q _ _ ⟨F,A',fr2.push ⟨rfl,_,rfl,z▸ .bl b⟩⟩⟩
end
end PL
namespace PL
open PySem L2 Nh
def AO(K:Frag)(H H':Hp)(v:V):Sl→Prop
 |.sh d=>Rp K (tups H') v d
 |.ow ds=>∃l vs,v=.ref l∧H l=none∧H' l=some (.lst vs)∧RpA K (tups H') vs ds
 |.tx ps=>∃t vs A,v=.ref t∧tups H' t=some (.tup vs)∧A.Nodup∧(∀a∈A,H a=none)∧PtsOk K (tups H') H' vs ps A
 |.od kvs=>∃l us A,v=.ref l∧(l::A).Nodup∧(∀a∈l::A,H a=none)∧H' l=some (.dK us)∧DlOk K (tups H') H' us kvs A
 |.br d=>Rp K H' v d
 |_=>False
def gh(K:Frag)(c:List PyData→Option Sl):Sp:=fun vs H Q _=>∃ds r,c ds=some r∧RpA K H vs ds∧∀v H',Same H H'→AO K H H' v r→Q v H'
section
variable {K:Frag} {B F:Hp} {A N:List Addr} {σ:o4} {H H':Hp} {E:List Sl} {xs:List V} {Xs:List Sl} {v:V} {s:Sl}
theorem FrF.growN(h:FrF K B F A σ H E xs Xs)(g:Same H H')(hN:∀a∈N,H a=none∧((∃us,H' a=some (.lst us))∨∃us,H' a=some (.dK us))):FrF K B (fun b=>if b∈N then none else if b∈A then none else H' b) A σ H' E xs Xs:=by
 have h1:=h.grow g
 have nF:∀b o,F b=some o→b∉N:=fun b o e hb=>by
  have:=h.fh.free (hN b hb).1
  rw[this]at e;cases e
 have FF:Same F (fun b=>if b∈N then none else if b∈A then none else H' b):=fun b o e=>by
  have nA:b∉A:=fun hb=>by rw[h.fr b hb]at e;cases e
  show(if b∈N then none else if b∈A then none else H' b)=some o
  rw[if_neg (nF b o e),if_neg nA]
  exact g _ _ (h.fh _ _ e)
 have hA:∀b∈A,H' b=H b:=fun b hb=>by
  rcases h.mutA b hb with⟨_,z⟩ |⟨_,z⟩ <;> rw[z,g _ _ z]
 refine⟨h.bf.trans FF,fun b o e=>?_,fun b o e=>?_,h.sl.mono fun o s C _ hC q=>q.stay FF (fun b hb=>hA b (hC b hb)) fun _=>g,h.nd,fun a ha=>?_,h.len,h.pl⟩
 ·by_cases hb:b∈N
  ·rw[if_pos hb]at e;cases e
  ·rw[if_neg hb]at e;exact h1.fh _ _ e
 ·show(if b∈N then none else if b∈A then none else H' b)=some o
  by_cases hb:b∈N
  ·obtain⟨e1,e2⟩:=Option.filter_eq_some_iff.mp e
   rcases(hN b hb).2 with⟨us,z⟩ |⟨us,z⟩ <;> rw[z]at e1 <;> cases e1 <;> cases e2
  ·rw[if_neg hb];exact h1.tf _ _ e
 ·show(if a∈N then none else if a∈A then none else H' a)=none
  by_cases hb:a∈N
  ·rw[if_pos hb]
  ·rw[if_neg hb,if_pos ha]
theorem FrF.pushR(h:FrF K B F A σ H E xs Xs)(q:SlOk K F H σ (some v) s N)(nd:N.Nodup)(dj:∀a∈N,a∉A)(fr:∀a∈N,F a=none):FrF K B F (N++A) σ H E (v::xs) (s::Xs):=
 ⟨h.bf,h.fh,h.tf,.cons q h.sl,List.nodup_append.mpr ⟨nd,h.nd,fun a ha b hb e=>dj a ha (e▸hb)⟩,fun a ha=>(Zai.mp ha).elim (fr a) (h.fr a),by simp[h.len],h.pl⟩
theorem FrF.told(h:FrF K B F A σ H E xs Xs)(g:Same H H')(q:AO K H H' v s):Frm K B σ H' E (v::xs) (s::Xs):=by
 cases s with
 |sh d=>
  have h1:=h.grow g
  exact⟨_,_,h1.push ⟨rfl,v,rfl,Rp.same h1.tf q⟩⟩
 |ow ds=>
  obtain⟨l,vs,rfl,hl,hl',r⟩:=q
  have h1:=h.growN (N:=[l]) g fun a ha=>by rw[Zaf.mp ha];exact⟨hl,.inl ⟨vs,hl'⟩⟩
  exact⟨_,_,h1.pushR (N:=[l]) ⟨l,vs,rfl,rfl,hl',r.same h1.tf⟩ (by simp) (fun a ha=>by rw[Zaf.mp ha];exact h.newA hl) fun a ha=>if_pos ha⟩
 |tx ps=>
  obtain⟨t,vs,N,rfl,ht,nd,hN,r⟩:=q
  have h1:=h.growN (N:=N) g fun a ha=>⟨hN a ha,.inl (r.some a ha)⟩
  exact⟨_,_,h1.pushR (N:=N) ⟨t,vs,rfl,h1.tf _ _ ht,r.stay h1.tf fun _ _=>rfl⟩ nd (fun a ha=>h.newA (hN a ha)) fun a ha=>if_pos ha⟩
 |no=>exact False.elim q
 |od kvs=>
  obtain⟨l,us,N,rfl,nd,hN,hl,r⟩:=q
  have h1:=h.growN (N:=l::N) g fun a ha=>⟨hN a ha,(Zap.mp ha).elim (fun z=>.inr ⟨us,z▸hl⟩) fun z=>.inl (r.some a z)⟩
  exact⟨_,_,h1.pushR (N:=l::N) ⟨l,us,N,rfl,rfl,hl,r.stay h1.tf fun _ _=>rfl⟩ nd (fun a ha=>h.newA (hN a ha)) fun a ha=>if_pos ha⟩
 |al i=>exact False.elim q
 |br d=>
  have h1:=h.grow g
  exact⟨_,_,h1.push ⟨rfl,v,rfl,q⟩⟩
end
def ak(c:List PyData→Option Sl)(g:rB):aY:=fun E=>(g E).bind fun a=>(dZ a.2 a.1).bind fun ds=>(c ds).map fun r=>(r,a.2)
theorem rG{c:List PyData→Option Sl}{pos:Pos}{es:List Expr}{g:rB}(D:Own X.prog X.w X.K X.mg X.base k x ps (gh X.K c))(hr:Room k X.A)(hg:Gl X x)(ha:AX X (e::es) m g)
  (hdb:(x == ("__debug__":Str))=false:=by decide) (he:starEach (e::es) X.env=(false,eval e X.env)::starEach es X.env:=by rfl) (hpl:(backTo pos (starEach es X.env)).any (·.1)=false:=by rfl):
  EX X (.Call (.Name x p) (e::es) [] pos) m (ak c g):=by
 refine bx (Ji D hr hg ha hdb he hpl) fun σ H Q z=>?_
 obtain⟨B,E,xs,Xs,res,E',fr,cl,e,q⟩:=z
 obtain⟨⟨rs,E1⟩,e1,e⟩:=Za.mp e
 obtain⟨ds,e2,e⟩:=Za.mp e
 obtain⟨r,e3,e⟩:=Zad.mp e
 cases e
 refine⟨B,E,xs,Xs,rs,E1,fr,cl,e1,fun vs H1 hl ⟨F,A,fr1⟩=>?_⟩
 obtain⟨r1,A',fr2⟩:=fr1.looks hl e2
 exact⟨ds,res,e3,by rw[oS];exact r1,fun v H' g q'=>q v H' (fr2.told g q')⟩
def eG(i:Nat)(f:aY):aY:=fun E=>match E[i]? with
 |some (.ow _)=>(f E).bind fun a=>(frz a.2 a.1).bind fun b=>match b.2[i]? with
  |some (.ow ds)=>if ds.length < 1000000 then some (.sh .none,b.2.set i (.ow (ds++[b.1])))else none
  |_=>none
 |_=>none
def GM(i:Nat):aY:=fun E=>match E[i]? with
 |some (.ow ds)=>(ds[ds.length - 1]?).map fun d=>(.sh d,E.set i (.ow ds.dropLast))
 |_=>none
section
variable {X:Cx} {e:Expr} {m1:Bool} {f:aY} {x:Str} {p apos cpos:Pos}
theorem eS(i:Nat) (he:EX X e m1 f) (hN:X.N[i]? =some x:=by rfl) (hv:HR X.env.scope x:=by first |exact Or.inl rfl |exact Or.inr (Or.inl rfl) |exact Or.inr (Or.inr rfl)) (hd:(x == ("__debug__":Str))=false:=by decide) (hcd:(x == ("__classdict__":Str))=false:=by decide)
  (hs:starEach [e] X.env=[(false,eval e X.env)]:=by rfl) (hbase:attributeBase (.Name x p) "append" X.env (eval (.Name x p) X.env)=eval (.Name x p) X.env:=by rfl)
  (hfew:((backTo cpos (starEach [e] X.env)).all (fun x=> !x.1)&&(backToKw cpos (keywordEach [] X.env)).all (fun x=>x.1.isSome)
   &&decide (([e]:List Expr).length+([]:List Keyword).length+(if ([]:List Keyword).isEmpty then 0 else 1) < 30))=true:=by rfl) (hline:(apos.endLine == cpos.line)=true:=by rfl):
  EX X (.Call (.Attribute (.Name x p) "append" apos) [e] [] cpos) true (eG i f):=by
 refine bx (wx PySem.F.plainAttrs_list PySem.F.slot_list_append PySem.F.type_list_append tU (oT hN hv hd hcd) (cw he eY hs) hbase hfew hline hs rfl) fun σ H Q z=>?_
 obtain⟨B,E,xs,Xs,res,E',⟨F,A,fr⟩,cl,e,q⟩:=z
 unfold eG at e
 split at e
 ·rename_i ds0 ei
  obtain⟨⟨s,E1⟩,e1,e⟩:=Za.mp e
  obtain⟨⟨d,E2⟩,e2,e⟩:=Za.mp e
  simp only at e
  split at e
  ·rename_i ds ei2
   split at e
   ·rename_i hl
    cases e
    obtain⟨o,A1,eo,l,vs,rfl,rfl,hl0,_⟩:=fr.var ei
    refine⟨_,eo,.inl ⟨rfl,_,SqL.of hl0⟩,B,E,xs,Xs,s,E1,⟨F,A,fr⟩,fun _=>cl rfl,e1,fun v H1 ⟨F1,A1,fr1⟩=>?_⟩
    obtain⟨F2,A2,fr2⟩:=fr1.frz0 e2
    obtain⟨v',A3,ev,rfl,w,ew,rv⟩:=fr2.ext (k:=0) rfl
    cases ev;cases ew
    obtain⟨A4,fr3⟩:=fr2.pop
    obtain⟨l',vs',eo',hl',r',put⟩:=fr3.mut ei2 (cl rfl)
    rw[eo]at eo'
    cases eo'
    have ll:=r'.len
    have fr4:=put (vs'++[v]) (ds++[d]) (r'.snoc rv)
    exact⟨l,vs',v,rfl,rfl,hl',small (by omega),q _ _ ⟨_,_,fr4.push ⟨rfl,_,rfl,.non⟩⟩⟩
   ·cases e
  ·cases e
 ·cases e
theorem D8(i:Nat) (hN:X.N[i]? =some x:=by rfl) (hv:HR X.env.scope x:=by first |exact Or.inl rfl |exact Or.inr (Or.inl rfl) |exact Or.inr (Or.inr rfl)) (hd:(x == ("__debug__":Str))=false:=by decide) (hcd:(x == ("__classdict__":Str))=false:=by decide)
  (hbase:attributeBase (.Name x p) "pop" X.env (eval (.Name x p) X.env)=eval (.Name x p) X.env:=by rfl) (hline:(apos.endLine == cpos.line)=true:=by rfl):
  EX X (.Call (.Attribute (.Name x p) "pop" apos) [] [] cpos) true (GM i):=by
 refine bx (Je PySem.F.plainAttrs_list PySem.F.slot_list_pop PySem.F.type_list_pop Jf (oT hN hv hd hcd) hbase hline) fun σ H Q z=>?_
 obtain⟨B,E,xs,Xs,res,E',⟨F,A,fr⟩,cl,e,q⟩:=z
 unfold GM at e
 split at e
 ·rename_i ds ei
  obtain⟨d,ed,e⟩:=Zad.mp e
  cases e
  obtain⟨l,vs,eo,hl,r,put⟩:=fr.mut ei (cl rfl)
  obtain⟨y,ey,ry⟩:=r.get ed
  have fr2:=put vs.dropLast ds.dropLast r.dropLast
  exact⟨_,eo,.inl ⟨rfl,_,SqL.of hl⟩,l,vs,y,rfl,rfl,hl,by rw[r.len];exact ey,q _ _ ⟨_,_,fr2.push ⟨rfl,_,rfl,ry⟩⟩⟩
 ·cases e
end
def D9(s:Sl):Sl:=match s.val with
 |some d=>.sh d
 |none=>.no
def frzAll(E:List Sl):List Sl:=E.map D9
def settle(E:List Sl):Sl→Option (Sl×List Sl)
 |.al i=>(frz E (.al i)).map fun a=>(.sh a.1,a.2)
 |.br d=>if fO d then some (.sh d,E)else some (.sh d,frzAll E)
 |s=>some (s,E)
def aC(g h:bX):bX:=fun E=>(g E).bind fun a=>match a.2 with
 |.nx=>h a.1
 |fl=>some (a.1,fl)
def aV:bX:=fun E=>some (E,.nx)
def fN(f:aY):bX:=fun E=>(f E).map fun a=>(a.2,.nx)
def aZ(f:aY):bX:=fun E=>(f E).bind fun a=>match a.1 with
 |.al i=>(a.2[i]?).map fun s=>(a.2.set i .no,.rt s)
 |s=>some (a.2,.rt s)
def bS(c:lq)(g h:bX):bX:=fun E=>(c E).bind fun a=>if a.1 then g a.2 else h a.2
def aE(i:Nat)(f:aY):bX:=fun E=>(f E).bind fun a=>(settle a.2 a.1).bind fun b=>if i < b.2.length then some (b.2.set i b.1,.nx)else none
section
variable {K:Frag} {B F:Hp} {A:List Addr} {σ:o4} {H:Hp} {E E':List Sl} {xs:List V} {Xs:List Sl} {v:V} {s s':Sl} {d:PyData}
theorem FrF.frzAll(h:FrF K B F A σ H E xs Xs)(hX:Xs=[]):FrF K B H [] σ H (PL.frzAll E) [] []:=by
 subst hX
 have hx:xs=[]:=by simpa using h.len
 subst hx
 refine⟨h.bf.trans h.fh,Same.refl _,oX H,?_,List.nodup_nil,fun a ha=>(by cases ha),rfl,fun s hs=>?_⟩
 ·have key:∀{os:List (Option V)} {ss:List Sl} {C:List Addr},SAll (SlOk K F H σ) os ss C→SAll (SlOk K H H σ) os (PL.frzAll ss) []:=fun {os ss C} r=>by
   induction r with
   |nil=>exact .nil
   |cons q _ ih=>
    refine .cons (A:=[]) ?_ ih
    unfold D9
    split
    ·rename_i d e
     obtain⟨v,rfl,r,_⟩:=q.val h.fh e
     exact⟨rfl,v,rfl,r⟩
    ·exact rfl
  exact key h.sl
 ·obtain⟨t,_,rfl⟩:=Zay.mp hs
  unfold D9
  split <;> rfl
theorem FrF.settle(h:FrF K B F A σ H E (v::xs) (s::Xs))(hX:Xs=[])(q:PL.settle E s=some (s',E')):s'.isAl=false∧Frm K B σ H E' (v::xs) (s'::Xs):=by
 cases s with
 |al i=>
  obtain⟨⟨d,E2⟩,e,z⟩:=Zad.mp (show(frz E (.al i)).map (fun a=>(Sl.sh a.1,a.2))=some (s',E')from q)
  cases z
  obtain⟨F',A',h'⟩:=h.frz0 e
  exact⟨rfl,F',A',h'⟩
 |br d=>
  have r:=(h.look0 (d:=d) rfl).1
  obtain⟨A',h'⟩:=h.pop
  simp only[PL.settle]at q
  split at q
  ·rename_i hf
   cases q
   exact⟨rfl,F,A',h'.push ⟨rfl,v,rfl,h.cold r hf⟩⟩
  ·cases q
   have h2:=h'.frzAll hX
   have hl:=h'.len
   subst hX
   have hx:xs=[]:=by simpa using hl
   subst hx
   exact⟨rfl,H,[],h2.push ⟨rfl,v,rfl,r⟩⟩
 |no=>cases q;exact⟨rfl,F,A,h⟩
 |sh d=>cases q;exact⟨rfl,F,A,h⟩
 |ow ds=>cases q;exact⟨rfl,F,A,h⟩
 |od kvs=>cases q;exact⟨rfl,F,A,h⟩
 |tx ps=>cases q;exact⟨rfl,F,A,h⟩
theorem FrF.move{i:Nat}(h:FrF K B F A σ H E (v::xs) (.al i::Xs))(e:E[i]? =some s):Frm K B σ H (E.set i .no) (v::xs) (s::Xs):=by
 obtain⟨v',A1,ev,rfl,w,ew,hw⟩:=h.ext (k:=0) rfl
 cases ev;cases ew
 obtain⟨A',h'⟩:=h.pop
 obtain⟨o,A0,A1,A2,eA,eo,hp,put⟩:=h'.sl.at (k:=Xs.length+i) (s:=s) (by rw[FZ (by omega)];simpa using e)
 have z:=put (SlOk K F H σ) o .no [] rfl fun _ _ _ _ _ q=>q
 have e3:(Xs++E).set (Xs.length+i) .no=Xs++E.set i .no:=by
  rw[List.set_append_right _ _ (by omega),Dq]
 have e2:(List.map some xs++σ).set (Xs.length+i) o=List.map some xs++σ:=List.ext_getElem? fun j=>by
  by_cases hj:Xs.length+i=j
  ·subst hj
   rw[List.getElem?_set_self',eo];rfl
  ·rw[List.getElem?_set_ne hj]
 rw[e2,e3]at z
 rw[FZ (by rw[c_,h'.len];omega),c_,h'.len,Dq,hw]at eo
 cases eo
 have nd:=h'.nd
 rw[eA]at nd
 refine⟨F,A1++(A0++([]++A2)),h.bf,h.fh,h.tf,.cons hp z,?_,fun a ha=>h'.fr a ?_,h.len,fun s' hs=>?_⟩
 ·have p:(A1++(A0++([]++A2))).Perm (A0++(A1++A2)):=by
   rw[List.nil_append,←n8,←n8]
   exact List.Perm.append_right _ List.perm_append_comm
  exact p.nodup_iff.mpr nd
 ·rw[eA]
  simp only[Zai,Z8]at ha ⊢
  rcases ha with z |z |z
  ·exact .inr (.inl z)
  ·exact .inl z
  ·exact .inr (.inr z)
 ·rcases List.mem_or_eq_of_mem_set hs with hs |hs
  ·exact h.pl s' hs
  ·subst hs;rfl
end
section
variable {X:Cx} {st:Stmt} {dv a b:List Stmt} {g h:bX} {e c:Expr} {m:Bool} {f:aY} {t:lq} {pos:Pos}
theorem aT:AK X [] aV:=AL Gc fun D σ H z=>by
 obtain⟨B,E,xs,Xs,E',fl,fr,cl,e,q⟩:=z
 cases e
 exact q _ _ fr
theorem am(h1:SX X st g):AK X [st] g:=Gd h1
theorem Jq{K:Frag}{H:Hp}(z:rs K (aC g h) D σ H):rs K g {D with nx:=rs K h D} σ H:=by
 obtain⟨B,E,xs,Xs,E',fl,fr,cl,e,q⟩:=z
 obtain⟨⟨E1,f1⟩,e1,e⟩:=Za.mp e
 refine⟨B,E,xs,Xs,E1,f1,fr,cl,e1,?_⟩
 cases f1 with
 |nx=>exact fun σ' H' fr'=>⟨B,E1,xs,Xs,E',fl,fr',cl,e,q⟩
 |bk=>cases e;exact q
 |ct=>cases e;exact q
 |rt r=>cases e;exact q
theorem aj(h1:SX X st g)(h2:AK X dv h):AK X (st::dv) (aC g h):=AL (Dv h1 h2) fun D σ H z=>Jq z
theorem fD(he:EX X e m f)(hs:swapsWith e none pos.line X.env=pure false:=by rfl):SX X (.Expr e pos) (fN f):=m5 (Ge he hs) fun D σ H z=>by
 obtain⟨B,E,xs,Xs,E',fl,fr,cl,e,q⟩:=z
 obtain⟨⟨s,E1⟩,e1,e⟩:=Zad.mp e
 cases e
 refine⟨B,E,xs,Xs,s,E1,fr,fun _=>Calm.nil cl,e1,fun v H1 ⟨F,A,fr1⟩=>?_⟩
 obtain⟨A',fr2⟩:=fr1.pop
 exact q _ _ ⟨F,A',fr2⟩
theorem aI(he:EX X e m f):SX X (.Return (some e) pos) (aZ f):=m5 (IE he) fun D σ H z=>by
 obtain⟨B,E,xs,Xs,E',fl,fr,cl,e,q⟩:=z
 obtain⟨⟨s,E1⟩,e1,e⟩:=Za.mp e
 refine⟨B,E,xs,Xs,s,E1,fr,fun _=>Calm.nil cl,e1,fun v H1 ⟨F,A,fr1⟩=>?_⟩
 simp only at e
 split at e
 ·obtain⟨s',es,e⟩:=Zad.mp e
  cases e
  exact q σ _ _ (fr1.move es)
 ·cases e
  exact q σ _ _ ⟨F,A,fr1⟩
theorem cf(hc:TX X c m t)(ha:AK X a g)(hb:AK X b h):SX X (.If c a b pos) (bS t g h):=m5 (Kt hc ha hb) fun D σ H z=>by
 obtain⟨B,E,xs,Xs,E',fl,fr,cl,e,q⟩:=z
 obtain⟨⟨b1,E1⟩,e1,e⟩:=Za.mp e
 refine⟨B,E,xs,Xs,b1,E1,fr,fun _=>Calm.nil cl,e1,fun H1 fr1=>?_⟩
 cases b1 with
 |true=>exact(if_pos rfl).mpr ⟨B,E1,xs,Xs,E',fl,fr1,cl,e,q⟩
 |false=>exact(if_neg (by decide)).mpr ⟨B,E1,xs,Xs,E',fl,fr1,cl,e,q⟩
theorem aB(i:Nat)(hN:X.N.Nodup)(he:EX X e m f)(hi:X.N[i]? =some x:=by rfl)(hx:Iw X.env.scope x:=by first |exact Or.inl rfl |exact Or.inr rfl)(hs:swapsWith e (some (.Name x pos')) pos.line X.env=pure false:=by rfl)(hf:X.fn x=true∨X.env.scope.names.lookup x=some .local:=by first |exact .inl rfl |exact .inr rfl |assumption):
  SX X (.Assign [.Name x pos'] e pos) (aE i f):=m5 (II hN hi hx he hs hf) fun D σ H z=>by
 obtain⟨B,E,xs,Xs,E',fl,fr,cl,e,q⟩:=z
 obtain⟨⟨s,E1⟩,e1,e⟩:=Za.mp e
 obtain⟨⟨s',E2⟩,e2,e⟩:=Za.mp e
 refine⟨B,E,xs,Xs,s,E1,fr,fun _=>Calm.nil cl,e1,fun v H1 ⟨F,A,fr1⟩=>?_⟩
 obtain⟨c1,F2,A2,fr2⟩:=fr1.settle cl e2
 simp only at e
 split at e
 ·rename_i hi
  cases e
  obtain⟨A3,fr3⟩:=fr2.store c1 (Still.nil cl) hi
  exact q _ _ ⟨F2,A3,fr3⟩
 ·cases e
end
end PL
namespace PL
open PySem L2 Nh
abbrev gi:=PyData→List Sl→Option (List Sl)
abbrev wJ:=List PyData→List Sl→Option (List Sl)
def rg(K:Frag)(h:gi):TG:=fun v σ H Q=>∃B E xs Xs d E',Frm K B σ H E (v::xs) (.sh d::Xs)∧Still Xs∧h d E=some E'∧∀σ' H',Frm K B σ' H' E' xs Xs→Q σ' H'
def NG(K:Frag)(h:wJ):Gf:=fun vs σ H Q=>∃B E xs Xs ds E',vs.length=ds.length∧Frm K B σ H E (vs++xs) (ds.map .sh++Xs)∧Still Xs∧h ds E=some E'∧∀σ' H',Frm K B σ' H' E' xs Xs→Q σ' H'
def GX(X:Cx)(e:Expr)(h:gi):Prop:=PG X e (rg X.K h)
def LX(X:Cx)(es:List Expr)(h:wJ):Prop:=IG X es (NG X.K h)
def aK(i:Nat):gi:=fun d E=>if i < E.length then some (E.set i (.sh d))else none
def p7:wJ:=fun ds E=>if ds.isEmpty then some E else none
def gU(h:gi)(hs:wJ):wJ:=fun ds E=>match ds with
 |d::ds=>(h d E).bind (hs ds)
 |[]=>none
def p9(n:Nat)(hs:wJ):gi:=fun d E=>match d with
 |.tuple ds=>if ds.length=n then hs ds E else none
 |_=>none
section
variable {X:Cx}
theorem D_{t t':TG}(h:PG X e t)(k:∀v σ H Q,t' v σ H Q→t v σ H Q):PG X e t':=fun pins s σ H v u Q I r q=>h pins s σ H v u Q I r (k v σ H Q q)
theorem AQ{es:List Expr}{t t':Gf}(h:IG X es t)(k:∀v σ H Q,t' v σ H Q→t v σ H Q):IG X es t':=fun pins s σ H v u Q I r q=>h pins s σ H v u Q I r (k v σ H Q q)
theorem aG(i:Nat){pos:Pos}(hN:X.N.Nodup)(hi:X.N[i]? =some x:=by rfl)(hx:Iw X.env.scope x:=by first |exact Or.inl rfl |exact Or.inr rfl)(hf:X.fn x=true∨X.env.scope.names.lookup x=some .local:=by first |exact .inl rfl |exact .inr rfl |assumption):GX X (.Name x pos) (aK i):=D_ (Ay hN hi hx hf) fun v σ H Q z=>by
 obtain⟨B,E,xs,Xs,d,E',⟨F,A,fr⟩,cl,e,q⟩:=z
 unfold aK at e
 split at e
 ·rename_i hi
  cases e
  obtain⟨A',fr'⟩:=fr.store rfl cl hi
  exact q _ _ ⟨F,A',fr'⟩
 ·cases e
theorem ma:LX X [] p7:=AQ Gg fun v σ H Q z=>by
 obtain⟨B,E,xs,Xs,ds,E',hl,fr,cl,e,q⟩:=z
 unfold p7 at e
 split at e
 ·rename_i hd
  cases e
  have:ds=[]:=by simpa using hd
  subst this
  have hv:v=[]:=by simpa using hl
  subst hv
  exact⟨rfl,q _ _ fr⟩
 ·cases e
theorem eO{es:List Expr}{h:gi}{hs:wJ}(h1:GX X e h)(h2:LX X es hs)(hst:(assignEach (e::es) X.env).map (·.2)=assign e X.env::(assignEach es X.env).map (·.2):=by rfl):LX X (e::es) (gU h hs):=AQ (Dy h1 h2 hst) fun v σ H Q z=>by
 obtain⟨B,E,xs,Xs,ds,E',hl,fr,cl,e,q⟩:=z
 cases ds with
 |nil=>cases e
 |cons d ds=>
  cases v with
  |nil=>cases hl
  |cons v vs=>
   obtain⟨E1,e1,e2⟩:=Za.mp e
   refine⟨v,vs,rfl,B,E,vs++xs,ds.map Sl.sh++Xs,d,E1,fr,fun s hs=>?_,e1,fun σ1 H1 fr1=>⟨B,E1,xs,Xs,ds,E',by simpa using hl,fr1,cl,e2,q⟩⟩
   rcases Zai.mp hs with hs |hs
   ·obtain⟨d',_,rfl⟩:=Zay.mp hs
    rfl
   ·exact cl s hs
theorem o5{es:List Expr}{pos:Pos}{hs:wJ}{n:Nat}(hc:X.calm=true)(h:LX X es hs)(hn:(assignEach es X.env).length=n:=by rfl)(hst:(assignEach es X.env).findIdx? (·.1)=none:=by rfl):GX X (.Tuple es k pos) (p9 n hs):=D_ (IH hc h hn hst) fun v σ H Q z=>by
 obtain⟨B,E,xs,Xs,d,E',⟨F,A,fr⟩,cl,e,q⟩:=z
 unfold p9 at e
 split at e
 ·rename_i ds
  split at e
  ·rename_i hl
   obtain⟨v',A1,ev,rfl,w,ew,r⟩:=fr.ext (k:=0) rfl
   cases ev;cases ew
   cases r with
   |tup h1 h2=>
    obtain⟨A',fr'⟩:=fr.pop
    have key:∀{us:List V} {es:List PyData},RpA X.K F us es→FrF X.K B F A' σ H E (us++xs) (es.map .sh++Xs):=fun {us es} r=>by
     induction us generalizing es with
     |nil=>cases r;exact fr'
     |cons u us ih=>
      cases r with
      |cons r1 r2=>exact(ih r2).push ⟨rfl,_,rfl,r1⟩
    exact⟨_,_,rfl,fr.fh.tup h1,by rw[h2.len];exact hl,B,E,xs,Xs,ds,E',h2.len,⟨F,A',key h2⟩,cl,e,q⟩
  ·cases e
 ·cases e
end
def wK(K:Frag)(B0:Hp)(J:It)(ds:List PyData):Prop:=∀{B F:Hp} {A:List Addr} {σ:o4} {H:Hp} {E:List Sl} {xs:List V} {Xs:List Sl} (i:Nat),Same B0 B→FrF K B F A σ H E xs Xs→
 (∀d,ds[i]? =some d→J.go i H∧∀x H2,J.yld i H x H2→Frm K B σ H2 E (x::xs) (.sh d::Xs))∧(i=ds.length→J.stop i H)
def ri(K:Frag)(m:Bool)(f:oi):TI:=fun σ H R=>∃B E xs Xs ds E',Frm K B σ H E xs Xs∧(m=true→Calm Xs)∧f E=some (ds,E')∧∀B' J H',Same B B'→Frm K B' σ H' E' xs Xs→wK K B' J ds→R J H'
def IX(X:Cx)(tg e:Expr)(m:Bool)(f:oi):Prop:=PI X tg e (ri X.K m f)
theorem FrF.base{K:Frag}{B:Hp}{A:List Addr}{H:Hp}(h:FrF K B' F A σ H E xs Xs)(s:Same B B'):FrF K B F A σ H E xs Xs:=⟨s.trans h.bf,h.fh,h.tf,h.sl,h.nd,h.fr,h.len,h.pl⟩
theorem Frm.base{K:Frag}{B:Hp}{H:Hp}(h:Frm K B' σ H E xs Xs)(s:Same B B'):Frm K B σ H E xs Xs:=let ⟨F,A,h⟩:=h;⟨F,A,h.base s⟩
theorem FrF.raise{K:Frag}{B:Hp}{A:List Addr}{H:Hp}(h:FrF K B F A σ H E xs Xs):FrF K F F A σ H E xs Xs:=⟨Same.refl _,h.fh,h.tf,h.sl,h.nd,h.fr,h.len,h.pl⟩
def ko(lo:Int)(n:Nat):List PyData:=(List.range n).map fun(k:Nat)=>.int (lo+(k:Int))
def ja(g:rB):oi:=fun E=>(g E).bind fun a=>match dZ a.2 a.1 with
 |some [.int j]=>if -1000000≤j∧j≤1000000 then some (ko 0 j.toNat,a.2)else none
 |_=>none
def vv(g:rB):oi:=fun E=>(g E).bind fun a=>match dZ a.2 a.1 with
 |some [.int i,.int j]=>if -1000000≤i∧i≤1000000∧ -1000000≤j∧j≤1000000 then some (ko i (j - i).toNat,a.2)else none
 |_=>none
def wL(f:aY):oi:=fun E=>(f E).bind fun a=>(frz a.2 a.1).bind fun b=>match b.1 with
 |.list ds=>some (ds.reverse,b.2)
 |_=>none
section
variable {X:Cx} {tg e e2:Expr} {m:Bool} {f:aY} {g:rB} {p pos:Pos} {K:Frag} {B:Hp}
theorem rH{t t':TI}(h:PI X tg e t)(k:∀σ H Q,t' σ H Q→t σ H Q):PI X tg e t':=fun pins s σ H R I q=>h pins s σ H R I (k σ H R q)
theorem tY{vs:List V}(h:SqL K B a vs)(r:RpA K B vs ds):wK K B (Mi K a) ds:=fun {B' F A σ H E xs Xs} i sB fr=>by
 have hH:=fr.fh.seq (fr.bf.seq (sB.seq h))
 refine⟨fun d ed=>?_,fun e=>⟨vs,hH,by rw[e,r.len];exact gR _⟩⟩
 obtain⟨v,ev,rv⟩:=r.get ed
 refine⟨⟨vs,v,hH,ev⟩,fun x H2 ⟨e2,y⟩=>?_⟩
 subst e2
 have:=y vs hH
 rw[ev]at this
 cases this
 exact⟨F,A,fr.push ⟨rfl,_,rfl,rv.same (sB.trans fr.bf)⟩⟩
theorem Ea{vs:List V}(h:SqL K B a vs)(r:RpA K B vs ds):wK K B (My K a vs) ds.reverse:=fun {B' F A σ H E xs Xs} i sB fr=>by
 have hH:=fr.fh.seq (fr.bf.seq (sB.seq h))
 refine⟨fun d ed=>?_,fun e=>⟨hH,by rw[e,BN,r.len]⟩⟩
 obtain⟨v,ev,rv⟩:=r.rev.get ed
 have hi:i < vs.length:=by
  have:=(Zbi.mp ev).1
  simpa using this
 refine⟨⟨hH,hi⟩,fun x H2 ⟨e2,y⟩=>?_⟩
 subst e2
 rw[ev]at y
 cases y
 exact⟨F,A,fr.push ⟨rfl,_,rfl,rv.same (sB.trans fr.bf)⟩⟩
theorem rJ{lo:Int}{n:Nat}:wK K B (Kw lo n) (ko lo n):=fun {B' F A σ H E xs Xs} i sB fr=>by
 have hl:(ko lo n).length=n:=by simp[ko]
 refine⟨fun d ed=>?_,fun e=>?_⟩
 ·have hi:i < n:=by have:=(Zbi.mp ed).1;omega
  refine⟨hi,fun x H2 ⟨e2,y⟩=>?_⟩
  subst e2 y
  have:d=.int (lo+i):=by
   unfold ko at ed
   rw[List.getElem?_map,List.getElem?_range hi]at ed
   exact(Option.some.inj ed).symm
  subst this
  exact⟨F,A,fr.push ⟨rfl,_,rfl,.int _⟩⟩
 ·show n≤i
  omega
theorem vw(hg:Gl X "reversed") (hm:X.mg "reversed"=none) (he:EX X e m f) (hs:starEach [e] X.env=[(false,eval e X.env)]:=by rfl):IX X tg (.Call (.Name "reversed" p) [e] [] pos) m (wL f):=rH (Jh hg hm (cw he eY hs) hs) fun σ H R z=>by
 obtain⟨B,E,xs,Xs,ds,E',fr,cl,e,q⟩:=z
 obtain⟨⟨s,E1⟩,e1,e⟩:=Za.mp e
 obtain⟨⟨d,E2⟩,e2,e⟩:=Za.mp e
 refine⟨B,E,xs,Xs,s,E1,fr,cl,e1,fun v H1 ⟨F,A,fr1⟩=>?_⟩
 obtain⟨F2,A2,fr2⟩:=fr1.frz0 e2
 simp only at e
 split at e
 ·cases e
  obtain⟨v',A1,ev,rfl,w,ew,r⟩:=fr2.ext (k:=0) rfl
  cases ev;cases ew
  cases r with
  |lst h1 h2=>
   obtain⟨A3,fr3⟩:=fr2.pop
   exact⟨_,_,rfl,fr2.fh.seq h1,q F2 _ _ fr2.bf ⟨F2,A3,fr3.raise⟩ (Ea h1 h2)⟩
 ·cases e
theorem jY(hg:Gl X "range") (hm:X.mg "range"=none) (ha:AX X [e] m g) (hs:starEach [e] X.env=[(false,eval e X.env)]:=by rfl):IX X tg (.Call (.Name "range" p) [e] [] pos) m (ja g):=rH (BS hg hm ha hs) fun σ H R z=>by
 obtain⟨B,E,xs,Xs,ds,E',fr,cl,e,q⟩:=z
 obtain⟨⟨rs,E1⟩,e1,e⟩:=Za.mp e
 refine⟨B,E,xs,Xs,rs,E1,fr,cl,e1,fun vs H1 hl ⟨F,A,fr1⟩=>?_⟩
 simp only at e
 split at e
 ·rename_i j ld
  split at e
  ·rename_i hj
   cases e
   obtain⟨r,A',fr2⟩:=fr1.looks hl ld
   obtain⟨v,rfl,r'⟩:=r.one
   cases r'
   exact⟨j,rfl,by omega,by omega,q B _ _ (Same.refl _) ⟨F,A',fr2⟩ rJ⟩
  ·cases e
 ·cases e
theorem Cc(hg:Gl X "range") (hm:X.mg "range"=none) (ha:AX X [e,e2] m g) (hs:starEach [e,e2] X.env=[(false,eval e X.env),(false,eval e2 X.env)]:=by rfl) (hs2:starEach [e2] X.env=[(false,eval e2 X.env)]:=by rfl):IX X tg (.Call (.Name "range" p) [e,e2] [] pos) m (vv g):=rH (BT hg hm ha hs hs2) fun σ H R z=>by
 obtain⟨B,E,xs,Xs,ds,E',fr,cl,e,q⟩:=z
 obtain⟨⟨rs,E1⟩,e1,e⟩:=Za.mp e
 refine⟨B,E,xs,Xs,rs,E1,fr,cl,e1,fun vs H1 hl ⟨F,A,fr1⟩=>?_⟩
 simp only at e
 split at e
 ·rename_i i j ld
  split at e
  ·rename_i hj
   cases e
   obtain⟨r,A',fr2⟩:=fr1.looks hl ld
   obtain⟨v,u,rfl,r1,r2⟩:=r.two
   cases r1;cases r2
   exact⟨i,j,rfl,by omega,q B _ _ (Same.refl _) ⟨F,A',fr2⟩ rJ⟩
  ·cases e
 ·cases e
end
def aX(tg:gi)(body:bX):List PyData→bX
 |[],E=>some (E,.nx)
 |d::ds,E=>((tg d E).bind body).bind fun a=>match a.2 with
  |.nx=>aX tg body ds a.1
  |.ct=>aX tg body ds a.1
  |.bk=>some (a.1,.nx)
  |.rt r=>some (a.1,.rt r)
def dC(it:oi)(tg:gi)(body:bX):bX:=fun E=>(it E).bind fun a=>aX tg body a.1 a.2
theorem d0{tg:Expr}{g:gi}{b:bX}{pos:Pos}(hp:PassesOwn (model X.prog X.w) X.A X.env X.xe)(hc:X.calm=true)(hi:IX X tg iter m it)(hg:GX X tg g)(hb:AK X body b)
  (hs:∀x,foldedSetIterable iter X.env x=pure x:=by intro _;rfl):SX X (.For tg iter body [] pos) (dC it g b):=m5 (IK hp hc hi hg hb hs) fun D σ H z=>by
 obtain⟨B,E,xs,Xs,E',fl,fr,cl,e,q⟩:=z
 obtain⟨⟨ds,E1⟩,e1,e⟩:=Za.mp e
 refine⟨B,E,xs,Xs,ds,E1,fr,fun _=>Calm.nil cl,e1,fun B' J H1 hB fr1 ok=>?_⟩
 refine⟨fun i mm σ' H'=>mm=ds.length - i∧i≤ds.length∧∃Ei,aX g b (ds.drop i) Ei=some (E',fl)∧Frm X.K B' σ' H' Ei xs Xs,⟨ds.length,by simp,pT _,E1,by simpa using e,fr1⟩,?_⟩
 rintro i mm σ' H' ⟨rfl,hi,Ei,ei,F,A,fri⟩
 obtain⟨go,stop⟩:=ok i (Same.refl _) fri
 by_cases hlt:i < ds.length
 ·obtain⟨d,ed⟩:∃d,ds[i]? =some d:=⟨ds[i],yN hlt⟩
  obtain⟨g1,yl⟩:=go d ed
  have edr:ds.drop i=d::ds.drop (i+1):=by
   rw[List.drop_eq_getElem_cons hlt]
   congr 1
   exact Option.some.inj ((yN hlt).symm.trans ed)
  rw[edr]at ei
  obtain⟨⟨E2,f2⟩,e2,ei⟩:=Za.mp ei
  obtain⟨E3,e3,e2⟩:=Za.mp e2
  refine .inr ⟨g1,fun σ2 H2=>∃Ej,aX g b (ds.drop (i+1)) Ej=some (E',fl)∧Frm X.K B' σ2 H2 Ej xs Xs,fun σ2 H2 ⟨Ej,ej,frj⟩=>⟨ds.length - (i+1),by omega,rfl,hlt,Ej,ej,frj⟩,fun x H2 y=>?_⟩
  refine⟨B',Ei,xs,Xs,d,E3,yl x H2 y,Still.nil cl,e3,fun σ3 H3 fr3=>?_⟩
  refine⟨B',E3,xs,Xs,E2,f2,fr3,cl,e2,?_⟩
  cases f2 with
  |nx=>exact fun σ4 H4 fr4=>⟨E2,ei,fr4⟩
  |ct=>exact fun σ4 H4 fr4=>⟨E2,ei,fr4⟩
  |bk=>cases ei;exact fun σ4 H4 fr4=>q _ _ (fr4.base hB)
  |rt r=>cases ei;exact fun σ4 v H4 fr4=>q _ _ _ (fr4.base hB)
 ·have e0:i=ds.length:=by omega
  refine .inl ⟨stop e0,?_⟩
  rw[e0,List.drop_length]at ei
  cases ei
  exact q _ _ (Frm.base ⟨F,A,fri⟩ hB)
def gO:Sl→Bool
 |.sh d=>fO d
 |.ow ds=>bg ds
 |.tx ps=>ps.all fun p=>match p with |.fl d=>fO d |.ol ds=>bg ds
 |.od kvs=>kvs.all fun p=>bg p.2
 |_=>false
def eZ(n:Nat)(ds:List PyData):List Sl:=ds.map .sh++List.replicate (n - ds.length) .no
def fE(r:Sl):Option Sl:=if gO r then some r else match r with
 |.sh d=>some (.br d)
 |.ow ds=>some (.br (.list ds))
 |.tx ps=>some (.br (.tuple (ps.map Pt.val)))
 |.br d=>some (if fO d then .sh d else .br d)
 |_=>none
def vx(n:Nat)(g:bX):List PyData→Option Sl:=fun ds=>(g (eZ n ds)).bind fun a=>match a.2 with
 |.rt r=>fE r
 |.nx=>some (.sh .none)
 |_=>none
section
variable {K:Frag} {B F:Hp} {A:List Addr} {σ:o4} {H:Hp} {E:List Sl} {v:V} {r:Sl}
theorem DlOk.cold{H:Hp}(sF:Same F H):∀{us:List (lh×V)} {kvs:List (lh×List PyData)} {A:List Addr},(∀p∈kvs,bg p.2=true)→DlOk K F H us kvs A→DlOk K (tups H) H us kvs A
 |[],[],A,_,h=>h
 |p::us,q::kvs,A,c,h=>by
  obtain⟨l,vs,A',rfl,rfl,hl,hr,k⟩:=h
  exact⟨l,vs,A',rfl,rfl,hl,(hr.same sF).cold (c q (g_ ..)),DlOk.cold sF (fun p hp=>c p (gN _ hp)) k⟩
 |[],_::_,_,_,h=>False.elim h
 |_::_,[],_,_,h=>False.elim h
theorem PtsOk.cold{H G:Hp}(sF:Same F H)(tG:∀{v:V} {d:PyData},Rp K F v d→fO d=true→Rp K G v d):∀{vs:List V} {ps:List Pt} {A:List Addr},(∀p∈ps,(match p with |.fl d=>fO d |.ol ds=>bg ds)=true)→PtsOk K F H vs ps A→PtsOk K G H vs ps A
 |[],[],A,_,h=>h
 |v::vs,.fl d::ps,A,c,h=>⟨tG h.1 (c (.fl d) (g_ ..)),PtsOk.cold sF tG (fun p hp=>c p (gN _ hp)) h.2⟩
 |v::vs,.ol ds::ps,A,c,h=>by
  obtain⟨l,us,A',rfl,rfl,hl,hr,q⟩:=h
  refine⟨l,us,A',rfl,rfl,hl,?_,q.cold sF tG fun p hp=>c p (gN _ hp)⟩
  have cd:bg ds=true:=c (.ol ds) (g_ ..)
  have key:∀{us:List V} {ds:List PyData},RpA K F us ds→bg ds=true→RpA K G us ds:=fun {us ds} r c=>by
   induction us generalizing ds with
   |nil=>cases r;exact .nil
   |cons u us ih=>
    cases r with
    |cons r1 r2=>
     simp only[bg,yQ]at c
     exact .cons (tG r1 c.1) (ih r2 c.2)
  exact key hr cd
 |[],_::_,_,_,h=>False.elim h
 |_::_,[],_,_,h=>False.elim h
theorem FrF.result(h:FrF K B F A σ H E [v] [r])(c:gO r=true):Same B H∧AO K B H v r:=by
 refine⟨h.bf.trans h.fh,?_⟩
 have nB:∀a,F a=none→B a=none:=fun a e=>h.bf.free e
 have cold:∀{v:V} {d:PyData},Rp K F v d→fO d=true→Rp K (tups H) v d:=fun r f=>(r.same h.fh).cold f
 obtain⟨v',A1,ev,hs⟩:=h.ext (k:=0) rfl
 cases ev
 obtain⟨o,C0,C1,C2,eA,eo,hp,_⟩:=h.sl.at (k:=0) (s:=r) rfl
 cases eo
 have sub:∀a∈C1,F a=none:=fun a ha=>h.fr a (by rw[eA];simp[ha])
 have nd:C1.Nodup:=by
  have:=h.nd
  rw[eA]at this
  exact(List.nodup_append.mp (List.nodup_append.mp this).2.1).1
 cases r with
 |sh d=>obtain⟨_,w,ew,r⟩:=hp;cases ew;exact cold r c
 |ow ds=>
  obtain⟨l,vs,el,rfl,hl,r⟩:=hp
  cases el
  exact⟨l,vs,rfl,nB l (sub l (by simp)),hl,(r.same h.fh).cold c⟩
 |tx ps=>
  obtain⟨t,vs,et,ht,r⟩:=hp
  cases et
  exact⟨t,vs,C1,rfl,og (h.fh _ _ ht) rfl,nd,fun a ha=>nB a (sub a ha),r.cold h.fh cold (by simpa[gO,List.all_eq_true]using c)⟩
 |no=>cases c
 |od kvs=>
  obtain⟨l,us,A',el,rfl,hl,r⟩:=hp
  cases el
  exact⟨l,us,A',rfl,nd,fun a ha=>nB a (sub a ha),hl,r.cold h.fh (by simpa[gO,List.all_eq_true]using c)⟩
 |al i=>cases c
 |br d=>cases c
theorem FrF.resultO{r':Sl}(h:FrF K B F A σ H E [v] [r])(c:fE r=some r'):Same B H∧AO K B H v r':=by
 unfold fE at c
 split at c
 ·rename_i hc
  cases c
  exact h.result hc
 ·refine⟨h.bf.trans h.fh,?_⟩
  cases r with
  |sh d=>cases c;exact(h.look0 (d:=d) rfl).1
  |ow ds=>cases c;exact(h.look0 (d:=.list ds) rfl).1
  |tx ps=>cases c;exact(h.look0 (d:=.tuple (ps.map Pt.val)) rfl).1
  |br d=>
   have r:=(h.look0 (d:=d) rfl).1
   simp only at c
   split at c
   ·rename_i hf
    cases c
    exact r.cold hf
   ·cases c
    exact r
  |no=>cases c
  |od kvs=>cases c
  |al i=>cases c
theorem om{N:List Str}{vs:List V}(r:RpA K H vs ds)(hn:ds.length≤N.length):FrF K H H [] (L2.iL N vs) H (eZ N.length ds) [] []:=by
 refine⟨Same.refl _,Same.refl _,oX H,?_,List.nodup_nil,fun a ha=>(by cases ha),rfl,?_⟩
 ·have l:=r.len
  unfold L2.iL eZ
  rw[l]
  generalize N.length - ds.length=k
  have base:∀τ:o4,SAll (SlOk K H H τ) (List.replicate k none) (List.replicate k .no) []:=fun τ=>by
   induction k with
   |zero=>exact .nil
   |succ k ih=>exact .cons (A:=[]) rfl ih
  have key:∀(τ:o4) {us:List V} {es:List PyData},RpA K H us es→SAll (SlOk K H H τ) (us.map some++List.replicate k none) (es.map .sh++List.replicate k .no) []:=fun τ us es r=>by
   induction us generalizing es with
   |nil=>cases r;exact base τ
   |cons u us ih=>
    cases r with
    |cons r1 r2=>exact .cons (A:=[]) ⟨rfl,_,rfl,r1⟩ (ih _ r2)
  exact key _ r
 ·intro s hs
  unfold eZ at hs
  rcases Zai.mp hs with hs |hs
  ·obtain⟨d,_,rfl⟩:=Zay.mp hs
   rfl
  ·rw[(List.mem_replicate.mp hs).2]
   rfl
end
def fi(k n:Nat)(g:bX):List PyData→Option Sl:=fun ds=>if ds.length=k then vx n g ds else none
theorem dX{w:World}{K:Frag}{mg:Str→Option Value}{base:Heap}{N:List Str}{a n:Nat}{g:bX}(D:Def K mg x st ps)(S:FnScope N ps (aq st))(hpa:ps.length=a)(hNn:N.length=n)(hps:a≤n)
  (hbody:∀(f:Addr) (cdv:Value) (A:Around) (outer:List Env) (s:Shared) (H:Hp) (E:XK),Room k (A.deeper (PyProof.Rows.envOfC x (aq st) s.heap.objs.size f cdv))→
   AK (kl yR P w K mg base N x (aq st) f cdv A outer s H E).nox (bI st) g):Own P w K mg base (k+1) x ps (gh K (fi a n g)):=by
 subst hpa hNn
 refine D.own S (fun vs H Q E h=>?_) (fun f cdv A outer s H vs Q E hr h=>?_)
 ·obtain⟨ds,r,e,rp,_⟩:=h
  unfold fi at e
  split at e
  ·rename_i hl
   rw[rp.len];exact hl
  ·cases e
 obtain⟨ds,r,e,rp,q⟩:=h
 unfold fi at e
 split at e
 ·rename_i hl
  refine⟨_,hbody f cdv A outer s H E hr,?_⟩
  obtain⟨⟨E',fl⟩,e1,e⟩:=Za.mp e
  refine⟨H,eZ N.length ds,[],[],E',fl,⟨H,[],om rp (by omega)⟩,rfl,e1,?_⟩
  cases fl with
  |nx=>
   cases e
   rintro σ' H' ⟨F',A',fr'⟩
   exact q _ _ (fr'.bf.trans fr'.fh) .non
  |bk=>cases e
  |ct=>cases e
  |rt r'=>
   rintro σ' v H' ⟨F',A',fr'⟩
   obtain⟨s1,s2⟩:=fr'.resultO e
   exact q v H' s1 s2
 ·cases e
theorem NI{w:World}{K:Frag}{mg:Str→Option Value}{base:Heap}{N:List Str}{a n:Nat}{g:bX}{f0:Addr}(D:Fun K x x st f0 fd)(S:FnScope N ps (aq st))(hpa:ps.length=a)(hNn:N.length=n)(hps:a≤n)
  (hbody:∀(cdv:Value) (A:Around) (outer:List Env) (s:Shared) (H:Hp) (E:XK),Room k (A.deeper (PyProof.Rows.envOfC x (aq st) s.heap.objs.size f0 cdv))→
   AK (kl yR P w K mg base N x (aq st) f0 cdv A outer s H E).nox (bI st) g):FnOk P w K mg base yR (k+1) f0 fd ps (gh K (fi a n g)):=by
 subst hpa hNn
 refine D.ok S (fun vs H Q E h=>?_) (fun cdv A outer s H vs Q E hr h=>?_)
 ·obtain⟨ds,r,e,rp,_⟩:=h
  unfold fi at e
  split at e
  ·rename_i hl
   rw[rp.len];exact hl
  ·cases e
 obtain⟨ds,r,e,rp,q⟩:=h
 unfold fi at e
 split at e
 ·rename_i hl
  refine⟨_,hbody cdv A outer s H E hr,?_⟩
  obtain⟨⟨E',fl⟩,e1,e⟩:=Za.mp e
  refine⟨H,eZ N.length ds,[],[],E',fl,⟨H,[],om rp (by omega)⟩,rfl,e1,?_⟩
  cases fl with
  |nx=>
   cases e
   rintro σ' H' ⟨F',A',fr'⟩
   exact q _ _ (fr'.bf.trans fr'.fh) .non
  |bk=>cases e
  |ct=>cases e
  |rt r'=>
   rintro σ' v H' ⟨F',A',fr'⟩
   obtain⟨s1,s2⟩:=fr'.resultO e
   exact q v H' s1 s2
 ·cases e
theorem tZ{K:Frag}{H:Hp}:∀ns:List Int,RpA K H (ns.map V.int) (ns.map PyData.int)
 |[]=>.nil
 |n::ns=>.cons (.int n) (tZ ns)
theorem Jr{K:Frag}{H:Hp}{ns:List Int}{c:List PyData→Option Sl}(e:c [.list (ns.map .int)]=some (.sh (.bool true)))(h:SqL K H a (ns.map V.int)):gh K c [.ref a] H (fun v _=>v=.bl true) fun _ _ _=>False:=
 ⟨_,_,e,.cons (.lst h (tZ ns)) .nil,fun v H' _ r=>by
  have r':Rp K (tups H') v (.bool true):=r
  cases r'
  rfl⟩
end PL
variable {tg:PL.gi}
namespace PL
open PySem L2 Nh
def p_(E:List Sl):Option Nat→Sl
 |none=>.no
 |some j=>match (E[j]?).bind Sl.val with
  |some d=>.sh d
  |none=>.no
def gV(js:List (Option Nat))(E:List Sl):List Sl:=js.map (p_ E)
def a9:lq:=fun E=>some (true,E)
def bT(tg:gi)(cond:lq)(elt:aY):List PyData→List Sl→Option (List PyData)
 |[],_=>some []
 |d::ds,E=>(tg d E).bind fun E1=>(cond E1).bind fun b=>if b.1 then (elt b.2).bind fun c=>(frz c.2 c.1).bind fun e=>(bT tg cond elt ds e.2).map fun r=>e.1::r else bT tg cond elt ds b.2
def aS(js:List (Option Nat))(it:oi)(tg:gi)(cond:lq)(elt:aY):aY:=fun E=>(it E).bind fun a=>(bT tg cond elt a.1 (gV js a.2)).bind fun ds=>if bg ds&&decide (ds.length≤1000000)then some (.ow ds,a.2)else none
section
variable {X:Cx} {elt target iter:Expr} {ifs:List Expr} {scope sc:Scope} {cl:List (Str×Addr)} {N:List Str} {pos:Pos} {js:List (Option Nat)} {K:Frag}
theorem Eb{B:Hp}{A:List Addr}{H:Hp}(fr:FrF K B F A σ H E xs Xs)(js:List (Option Nat)):FrF K H H [] (slots js σ) H (gV js E) [] []:=by
 refine⟨Same.refl _,Same.refl _,oX H,?_,List.nodup_nil,fun a ha=>(by cases ha),rfl,fun s hs=>?_⟩
 ·have key:∀(τ:o4) (ks:List (Option Nat)),SAll (SlOk K H H τ) (slots ks σ) (gV ks E) []:=fun τ ks=>by
   induction ks with
   |nil=>exact .nil
   |cons j ks ih=>
    refine .cons (A:=[]) ?_ ih
    cases j with
    |none=>exact rfl
    |some j=>
     show SlOk K H H τ _ (match (E[j]?).bind Sl.val with |some d=>.sh d |none=>.no) []
     cases ej:E[j]? with
     |none=>exact rfl
     |some s=>
      cases ev:s.val with
      |none=>simp only[Z0,ev];exact rfl
      |some d=>
       simp only[Z0,ev]
       obtain⟨o,A1,eo,hs⟩:=fr.var ej
       obtain⟨v,rfl,r,_⟩:=hs.val fr.fh ev
       refine⟨rfl,v,?_,r⟩
       show(σ[j]?).join=some v
       rw[eo]
       rfl
  exact key _ js
 ·obtain⟨j,_,rfl⟩:=Zay.mp hs
  cases j with
  |none=>rfl
  |some j=>
   simp only[p_]
   split <;> rfl
theorem t6(htt:∀σ H Q,rt K m2 cond σ H Q→tt σ H Q){B:Hp}{A:List Addr}{H1:Hp}{rs:List PyData}{J:It}{Q:VK}
  (fr1:FrF K B F A σ H1 E1 xs Xs) (B2:Same B' H1) (ok:wK K B' J ds) (e2:bT tg cond el ds (gV js E1)=some rs) (hc:bg rs=true∧rs.length≤1000000) (q:∀v H',Frm K B σ H' E1 (v::xs) (.ow rs::Xs)→Q v H') (l:Addr) (hl:H1 l=none):
  ∃W:Nat→Nat→o4→Hp→Prop,(∃m,W 0 m (slots js σ) (fg H1 l (.lst [])))∧
 ∀i m σ' H',W i m σ' H'→(J.stop i H'∧Q (.ref l) H')∨(J.go i H'∧∃N:o4→Hp→Prop,(∀σ' H',N σ' H'→∃m',m' < m∧W (i+1) m' σ' H')∧∀x H2,J.yld i H' x H2→rg K tg x σ' H2 fun σ3 H3=>tt σ3 H3 fun b H4=>
  if b=true then rd K m3 el σ3 H4 fun y H5=>∃ys,H5 l=some (.lst ys)∧ys.length < sizeLine∧N σ3 (fg H5 l (.lst (ys++[y])))else N σ3 H4):=by
 have fr0:=(Eb fr1 js).newl (ds:=[]) .nil hl
 refine⟨fun i mm σ' H'=>mm=ds.length - i∧i≤ds.length∧∃Ei acc dv,bT tg cond el (ds.drop i) Ei=some dv∧rs=acc++dv∧Frm K H1 σ' H' Ei [.ref l] [.ow acc],⟨ds.length,by simp,pT _,_,[],rs,by simpa using e2,rfl,⟨_,_,fr0⟩⟩,?_⟩
 rintro i mm σ' H' ⟨rfl,hi,Ei,acc,dv,ei,er,F',A',fri⟩
 obtain⟨go,stop⟩:=ok i B2 fri
 by_cases hlt:i < ds.length
 ·obtain⟨d,ed⟩:∃d,ds[i]? =some d:=⟨ds[i],yN hlt⟩
  obtain⟨g1,yl⟩:=go d ed
  have edr:ds.drop i=d::ds.drop (i+1):=by
   rw[List.drop_eq_getElem_cons hlt]
   congr 1
   exact Option.some.inj ((yN hlt).symm.trans ed)
  rw[edr]at ei
  obtain⟨E3,e3,ei⟩:=Za.mp ei
  obtain⟨⟨b,E4⟩,e4,ei⟩:=Za.mp ei
  refine .inr ⟨g1,fun σ2 H2=>∃Ej acc dv,bT tg cond el (ds.drop (i+1)) Ej=some dv∧rs=acc++dv∧Frm K H1 σ2 H2 Ej [.ref l] [.ow acc],fun σ2 H2 ⟨Ej,ac,rt,ej,er,frj⟩=>⟨ds.length - (i+1),by omega,rfl,hlt,Ej,ac,rt,ej,er,frj⟩,fun x H2 y=>?_⟩
  have clm:Calm [Sl.ow acc]:=Calm.cons (fun s hs=>absurd hs (by simp)) rfl
  refine⟨H1,Ei,[.ref l],[.ow acc],d,E3,yl x H2 y,(fun s hs=>by rw[Zaf.mp hs];rfl),e3,fun σ3 H3 fr3=>htt _ _ _ ?_⟩
  refine⟨H1,E3,[.ref l],[.ow acc],b,E4,fr3,fun _=>clm,e4,fun H4 fr4=>?_⟩
  cases b with
  |false=>
   rw[if_neg (by decide)]
   exact⟨E4,acc,dv,ei,er,fr4⟩
  |true=>
   rw[if_pos rfl]
   obtain⟨⟨s5,E5⟩,e5,ei⟩:=Za.mp ei
   obtain⟨⟨d6,E6⟩,e6,ei⟩:=Za.mp ei
   obtain⟨rest',e7,ei⟩:=Zad.mp ei
   subst ei
   refine⟨H1,E4,[.ref l],[.ow acc],s5,E5,fr4,fun _=>clm,e5,fun y5 H5 ⟨F5,A5,fr5⟩=>?_⟩
   obtain⟨F6,A6,fr6⟩:=fr5.frz0 e6
   obtain⟨v',C1,ev,rfl,w,ew,ry⟩:=fr6.ext (k:=0) rfl
   cases ev;cases ew
   obtain⟨A7,fr7⟩:=fr6.pop
   -- the list under way is the one part that owns
   obtain⟨bf,fh,tf,sl,nd,frn,len,pl⟩:=fr7
   generalize hT:List.map some [V.ref l]++σ3=T at sl
   generalize hS:[Sl.ow acc]++E6=S at sl
   cases sl with
   |nil=>cases hS
   |cons q0 r0=>
    injection hT with h1 hT
    injection hS with h2 hS
    subst h1 h2 hT hS
    obtain⟨l',us,el,rfl,hl5,ru⟩:=q0
    cases el
    have lu:=ru.len
    refine⟨us,hl5,small (by rw[er]at hc;simp at hc;omega),E6,acc++[d6],rest',e7,by rw[er];simp,F6,_,bf,fun b o qb=>?_,?_,.cons (A:=[l]) ⟨l,us++[y5],rfl,rfl,ce,ru.snoc ry⟩ (r0.mono fun o s C hs hC qq=>qq.stay (Same.refl _) (fun b hb=>aM fun z=>?_) fun z=>?_),nd,frn,rfl,pl⟩
    ·have lF:F6 l=none:=frn l (by simp)
     rw[aM (fun z=>by rw[z,lF]at qb;cases qb)]
     exact fh _ _ qb
    ·rw[wD hl5];exact tf
    ·have:=hC b hb
     rw[z]at this
     exact(List.nodup_cons.mp nd).1 this
    ·have:=pl s hs
     cases s <;> simp[Sl.isAl,Sl.isBr]at this z
 ·have e0:i=ds.length:=by omega
  refine .inl ⟨stop e0,?_⟩
  rw[e0,List.drop_length]at ei
  cases ei
  rw[oS]at er
  subst er
  obtain⟨g1,g2⟩:=fri.result hc.1
  exact q _ _ (fr1.told g1 g2)
theorem vy(htt:∀σ H Q,rt K m2 cond σ H Q→tt σ H Q){H:Hp}{Q:VK}(z:rd K m (aS js it tg cond el) σ H Q):wA js (ri K m it) (rg K tg) tt (rd K m3 el) σ H Q:=by
 obtain⟨B,E,xs,Xs,res,E',fr,cl,e,q⟩:=z
 obtain⟨⟨ds,E1⟩,e1,e⟩:=Za.mp e
 obtain⟨rs,e2,e⟩:=Za.mp e
 simp only at e
 split at e
 ·rename_i hc
  cases e
  simp only[yQ,decide_eq_true_eq]at hc
  exact⟨B,E,xs,Xs,ds,_,fr,cl,e1,fun B' J H1 hB ⟨F,A,fr1⟩ ok l hl=>t6 htt (fr1.base hB) (fr1.bf.trans fr1.fh) ok e2 hc q l hl⟩
 ·cases e
def No(K:Frag)(m:Bool)(f:oi):TI:=fun σ H R=>∃B E xs Xs ds E',Frm K B σ H E xs Xs∧(m=true→Calm Xs)∧f E=some (ds,E')∧∀J H',Frm K B σ H' E' xs Xs→wK K H' J ds→R J H'
def Np(X:Cx)(tg e:Expr)(m:Bool)(f:oi):Prop:=PI X tg e (No X.K m f)
theorem Ec(htt:∀σ H Q,rt K m2 cond σ H Q→tt σ H Q){H:Hp}{Q:VK}(z:rd K m (aS js it tg cond el) σ H Q):wA js (No K m it) (rg K tg) tt (rd K m3 el) σ H Q:=by
 obtain⟨B,E,xs,Xs,res,E',fr,cl,e,q⟩:=z
 obtain⟨⟨ds,E1⟩,e1,e⟩:=Za.mp e
 obtain⟨rs,e2,e⟩:=Za.mp e
 simp only at e
 split at e
 ·rename_i hc
  cases e
  simp only[yQ,decide_eq_true_eq]at hc
  exact⟨B,E,xs,Xs,ds,_,fr,cl,e1,fun J H1 ⟨F,A,fr1⟩ ok l hl=>t6 htt fr1 (Same.refl _) ok e2 hc q l hl⟩
 ·cases e
theorem fj(C:CompOk X scope sc cl N js)(hc:X.calm=true)(hi:IX X target iter m it)(hg:∀C s₀ H₀ fp,GX (X.comp sc cl N C s₀ H₀ fp) target tg)(he:∀C s₀ H₀ fp,EX (X.comp sc cl N C s₀ H₀ fp) elt m3 el)
  (hs:∀x,foldedSetIterable iter X.env x=pure x:=by intro _;rfl):EX X (.ListComp elt [⟨target,iter,[],0⟩] scope pos) m (aS js it tg a9 el):=
 bx (uZ (g:=rg X.K tg) (te:=rd X.K m3 el) C hc hi hg (fun _ _ _ _=>uY) he hs) fun σ H Q z=>vy (m2:=false) (fun σ H Q z=>by
  obtain⟨B,E,xs,Xs,b,E',fr,cl,e,q⟩:=z
  cases e
  exact q _ fr) z
theorem jZ{c:Expr}(C:CompOk X scope sc cl N js)(hc:X.calm=true)(hi:IX X target iter m it)(hg:∀C s₀ H₀ fp,GX (X.comp sc cl N C s₀ H₀ fp) target tg)(ht:∀C s₀ H₀ fp,TX (X.comp sc cl N C s₀ H₀ fp) c m2 cond)(he:∀C s₀ H₀ fp,EX (X.comp sc cl N C s₀ H₀ fp) elt m3 el)
  (hs:∀x,foldedSetIterable iter X.env x=pure x:=by intro _;rfl):EX X (.ListComp elt [⟨target,iter,[c],0⟩] scope pos) m (aS js it tg cond el):=
 bx (uZ (g:=rg X.K tg) (te:=rd X.K m3 el) (tt:=rt X.K m2 cond) C hc hi hg (fun _ _ _ _=>Gx (ht _ _ _ _)) he hs) fun σ H Q z=>vy (m2:=m2) (fun _ _ _ z=>z) z
def rK(f:aY):oi:=fun E=>(f E).bind fun a=>match look a.2 a.1 with
 |some (.list ds)=>some (ds,a.2)
 |_=>none
theorem GN{tg:Expr}{f:aY}(he:EX X e m f):Np X tg e m (rK f):=rH (Az he) fun σ H R z=>by
 obtain⟨B,E,xs,Xs,ds,E',fr,cl,e,q⟩:=z
 obtain⟨⟨s,E1⟩,e1,e⟩:=Za.mp e
 simp only at e
 split at e
 ·rename_i ds' ld
  cases e
  refine⟨B,E,xs,Xs,s,_,fr,cl,e1,fun v H1 ⟨F,A,fr1⟩=>?_⟩
  obtain⟨r,_⟩:=fr1.look0 ld
  obtain⟨A',fr2⟩:=fr1.pop
  cases r with
  |lst h1 h2=>exact⟨_,rfl,⟨_,h1⟩,q _ _ ⟨F,A',fr2⟩ (tY h1 h2)⟩
 ·cases e
theorem Cd(C:CompOk X scope sc cl N js)(hc:X.calm=true)(hi:Np X target iter m it)(hg:∀C s₀ H₀ fp,GX (X.comp sc cl N C s₀ H₀ fp) target tg)(he:∀C s₀ H₀ fp,EX (X.comp sc cl N C s₀ H₀ fp) elt m3 el)
  (hs:∀x,foldedSetIterable iter X.env x=pure x:=by intro _;rfl):EX X (.ListComp elt [⟨target,iter,[],0⟩] scope pos) m (aS js it tg a9 el):=
 bx (uZ (g:=rg X.K tg) (te:=rd X.K m3 el) C hc hi hg (fun _ _ _ _=>uY) he hs) fun σ H Q z=>Ec (m2:=false) (fun σ H Q z=>by
  obtain⟨B,E,xs,Xs,b,E',fr,cl,e,q⟩:=z
  cases e
  exact q _ fr) z
end
end PL
namespace PL
open PySem L2 Nh
def keyOf:PyData→Option lh
 |.int i=>some (.inl i)
 |.str x=>some (.inr x)
 |_=>none
end PL
namespace PL
open PySem L2 Nh
theorem Js{K:Frag}{i:Nat}{f:aY}{H:Hp}(z:rs K (aE i f) D σ H):rd K m f σ H fun v H1=>Dx i v σ H1 D.nx:=by
 obtain⟨B,E,xs,Xs,E',fl,fr,cl,e,q⟩:=z
 obtain⟨⟨s,E1⟩,e1,e⟩:=Za.mp e
 obtain⟨⟨s',E2⟩,e2,e⟩:=Za.mp e
 refine⟨B,E,xs,Xs,s,E1,fr,fun _=>Calm.nil cl,e1,fun v H1 ⟨F,A,fr1⟩=>?_⟩
 obtain⟨c1,F2,A2,fr2⟩:=fr1.settle cl e2
 simp only at e
 split at e
 ·rename_i hi
  cases e
  obtain⟨A3,fr3⟩:=fr2.store c1 (Still.nil cl) hi
  exact q _ _ ⟨F2,A3,fr3⟩
 ·cases e
section
variable {X:Cx} {elt target iter:Expr} {scope sc:Scope} {cl:List (Str×Addr)} {N:List Str} {pos spos px:Pos} {js:List (Option Nat)} {x:Str}
theorem Ed(i:Nat)(hN:X.N.Nodup)(C:CompOk X scope sc cl N js)(hc:X.calm=true)(h:IX X target iter m it)(hg:∀C s₀ H₀ fp,GX (X.comp sc cl N C s₀ H₀ fp) target tg)(he:∀C s₀ H₀ fp,EX (X.comp sc cl N C s₀ H₀ fp) elt m3 el)
  (hi:X.N[i]? =some x:=by rfl) (hx:Iw X.env.scope x:=by first |exact Or.inl rfl |exact Or.inr rfl) (hf:X.fn x=true∨X.env.scope.names.lookup x=some .local:=by first |exact .inl rfl |exact .inr rfl |assumption)
  (hs:∀x,foldedSetIterable iter X.env x=pure x:=by intro _;rfl) (hsw:swapsWith (.ListComp elt [⟨target,iter,[],0⟩] scope pos) (some (.Name x px)) spos.line X.env=pure true:=by rfl):
  SX X (.Assign [.Name x px] (.ListComp elt [⟨target,iter,[],0⟩] scope pos) spos) (aE i (aS js it tg a9 el)):=
 m5 (Gy (g:=rg X.K tg) (te:=rd X.K m3 el) C hc (Ay hN hi hx hf) h hg (fun _ _ _ _=>uY) he hs hsw) fun D σ H z=>vy (m2:=false) (fun σ H Q z=>by
  obtain⟨B,E,xs,Xs,b,E',fr,cl,e,q⟩:=z
  cases e
  exact q _ fr) (Js z)
end
end PL
namespace PL
open PySem L2 Nh
theorem jb(xs:List α)(k:Nat):atI xs (k:Int)=xs[k]? :=by
 unfold atI Km
 rw[if_pos (by omega)]
 split
 ·simp
 ·rw[List.getElem?_eq_none (by omega)];rfl
theorem K9(a:α)(l:List α):atI (a::l) 0=some a:=jb (a::l) 0
theorem K_(a b:α)(l:List α):atI (a::b::l) 1=some b:=jb (a::b::l) 1
theorem Ic(a b c:α)(l:List α):atI (a::b::c::l) 2=some c:=jb (a::b::c::l) 2
theorem GO(l:List α)(a:α):atI (l++[a]) (-1)=some a:=by
 unfold atI Km
 rw[if_neg (by omega),if_pos (by simp;omega)]
 have e:(-1+(((l++[a]).length:Nat):Int)).toNat=l.length:=by simp;omega
 rw[e]
 simp
theorem zK{xs:List α}{i:Int}(h:0≤i):atI xs i=xs[i.toNat]? :=by
 have e:i=((i.toNat:Nat):Int):=by omega
 rw[e,jb,Int.toNat_natCast]
theorem GP(l:List α)(a:α):(l++[a])[(l++[a]).length - 1]? =some a:=by simp
theorem GQ(l:List α)(a:α):(l++[a]).isEmpty=false:=by cases l <;> rfl
theorem oo:∀(a b:List PyData),bg (a++b)=(bg a&&bg b)
 |[],b=>by simp[bg]
 |x::a,b=>by simp[bg,oo a b,Bool.and_assoc]
theorem t7:∀{a:List PyData},(∀d∈a,fO d=true)→bg a=true
 |[],_=>rfl
 |x::a,h=>by simp[bg,h x (g_ ..),t7 fun d hd=>h d (gN _ hd)]
theorem t8{f:α→PyData}(h:∀a,fO (f a)=true)(l:List α):bg (l.map f)=true:=t7 fun d hd=>by
 obtain⟨a,_,rfl⟩:=Zay.mp hd
 exact h a
theorem jG(p:Pc):fO (av p)=true:=rfl
theorem jc(c:List Pc):bg (c.map av)=true:=t8 jG c
theorem Ce(l:List Int):bg (l.map PyData.int)=true:=t8 (fun _=>rfl) l
def cutL{α:Type}(l:List α)(lo hi:Option Int):List α:=(l.drop (HT.qz l.length 0 lo)).take (HT.qz l.length l.length hi - HT.qz l.length 0 lo)
theorem lB(f:α→PyData)(l:List α)(lo hi:Option Int):B9 (l.map f) lo hi=(cutL l lo hi).map f:=by
 unfold B9 cutL
 rw[c_,List.map_take,List.map_drop]
theorem j4(l:List α)(lo hi:Option Int):(cutL l lo hi).length≤l.length:=by
 unfold cutL
 rw[List.length_take,List.length_drop]
 omega
theorem mf(l:List α){m:Int}(h:0≤m):((cutL l none (some m)).length:Int)≤m:=by
 unfold cutL
 have e:m=((m.toNat:Nat):Int):=by omega
 have z:HT.qz l.length l.length (some m)≤m.toNat:=by
  rw[e,HT.qO,Int.toNat_natCast]
  exact Nat.min_le_left _ _
 rw[List.length_take,List.length_drop]
 omega
theorem Cf(l:List α){k:Int}(h0:0≤k):cutL l (some k) none=l.drop k.toNat:=by
 have e:k=((k.toNat:Nat):Int):=by omega
 have z:∀d,HT.qz l.length d (some k)=min k.toNat l.length:=fun d=>by
  rw[e,HT.qO,Int.toNat_natCast]
 unfold cutL
 rw[z,HT.DI]
 rcases Nat.le_total k.toNat l.length with h |h
 ·rw[Nat.min_eq_left h]
  exact List.take_of_length_le (by rw[List.length_drop];omega)
 ·rw[Nat.min_eq_right h,List.drop_length,List.drop_of_length_le h,List.take_nil]
theorem rL{l:List α}{lo hi:Option Int}{x:α}(h:x∈cutL l lo hi):x∈l:=List.mem_of_mem_drop (List.mem_of_mem_take h)
theorem j5(lo:Int)(n:Nat):ko lo (n+1)=.int lo::ko (lo+1) n:=by
 unfold ko
 rw[List.range_succ_eq_map,eR,List.map_map]
 simp only[Int.natCast_zero,Int.add_zero]
 congr 1
 refine List.map_congr_left fun k _=>?_
 show PyData.int (lo+((k+1:Nat):Int))=PyData.int (lo+1+(k:Int))
 congr 1
 omega
end PL
namespace L2
open PySem PySem.Spec PyProof.Rows
def LY(x:Str):It:=⟨fun i _=>i < x.cps.toList.length,fun i H v H'=>H'=H∧∃c,x.cps.toList[i]? =some c∧v=.str ⟨#[c]⟩,fun i _=>i=x.cps.toList.length⟩
theorem Ee{w:World} {K:Frag} {tg:Expr} {it:Addr} {T:String}  {t:Tok} (hT:T="str_ascii_iterator"∨T="str_iterator"):Turn P w K tg (LY x) [it] it (fun i h=>h.IsStrIter it T x t i) where
 mem:=by simp
 obj:=fun i h st b hb=>by
  have e:b=it:=by simpa using hb
  subst e
  obtain⟨o,e,c,d⟩:=st
  exact⟨o,e,fun v z=>by rw[d]at z;cases z⟩
 keep:=fun i h h' st k=>let ⟨o,ho,r⟩:=st;⟨o,k it (by simp) o ho,r⟩
 item:=by
  intro X hP hw hK hc i pins s σ H E I hf st hg
  subst hP hw hK
  obtain⟨f0,f1,f2,f3,f4,f5⟩:=hf it (by simp)
  have hi:i < x.cps.toList.length:=hg
  have hx:x.cps[i]? =some (x.cps.toList[i]'hi):=by simp at hi;simp[hi]
  have fin:∀(h':Heap),h'.IsStrIter it T x t (i+1)→Heap.SameBut it s.heap h'→∃u,some (Value.str ⟨#[x.cps.toList[i]'hi]⟩ s.toks)=some u∧
    wpAny (model X.prog X.w) X.A (letOwnedTupleGo tg (.ref it) u) (fun _ s2=>∃v H',Inv X pins σ H' s2∧RelV v u∧(LY x).yld i H v H'∧s2.heap.IsStrIter it T x t (i+1)∧∀b∈[it],H' b=none) E {s with heap:=h',toks:=s.toks+1}:=fun h' st' sb=>by
   have I1:Inv X pins σ H {s with heap:=h',toks:=s.toks+1}:=I.turned (t':=s.toks+1) (fun b o hb e=>(sb.2 b hb).trans e) f0 f1 f3 f4 f5
   obtain⟨o,e,c,d⟩:=id st'
   exact⟨_,rfl,wt (s:={s with heap:=h',toks:=s.toks+1}) e c d (by rcases hT with rfl |rfl <;> decide) ⟨.str ⟨#[x.cps.toList[i]'hi]⟩,H,I1,⟨_,rfl⟩,⟨rfl,_,yN hi,rfl⟩,st',fun b hb=>(hf b hb).1⟩⟩
  rcases hT with rfl |rfl
  ·exact wpAny_pyNext_ascii_item st hx fun h' st' sb=>fin h' st' sb
  ·exact wpAny_pyNext_wide_item st hx fun h' st' sb=>fin h' st' sb
 done:=by
  intro X hP hw hK hc i pins s σ H E I hf st hg
  subst hP hw hK
  obtain⟨f0,f1,f2,f3,f4,f5⟩:=hf it (by simp)
  have hi:i=x.cps.toList.length:=hg
  have hx:x.cps[i]? =none:=by simp at hi;simp[hi]
  rcases hT with rfl |rfl
  ·exact wpAny_pyNext_ascii_end (I.ok.hd hc) st hx fun h' eb=>⟨rfl,I.turned (t':=s.toks) (fun b o hb e=>eb b o hb e) f0 f1 f3 f4 f5⟩
  ·exact wpAny_pyNext_wide_end (I.ok.hd hc) st hx fun h' eb=>⟨rfl,I.turned (t':=s.toks) (fun b o hb e=>eb b o hb e) f0 f1 f3 f4 f5⟩
 self:=fun _ _ _ _ _ st h=>by
  rcases hT with rfl |rfl
  ·exact wpAny_pyIter_striter_ascii st h
  ·exact wpAny_pyIter_striter_wide st h
def MF(tl:TE):TI:=fun σ H R=>tl σ H fun v H1=>∃x,v=.str x∧R (LY x) H1
theorem Jt{tg l:Expr}{tl:TE}(hl:PE X l tl):PI X tg l (MF tl):=by
 intro pins s σ H R I h
 refine fA (hl pins s σ H _ I h) fun v s1 ⟨y,H1,I1,r1,q1⟩=>?_
 obtain⟨x,e,q⟩:=q1
 subst e
 obtain⟨t,rfl⟩:=r1
 refine wpAny_pyIter_strU ?_
 refine⟨s1.heap.objs.size,[s1.heap.objs.size],fun i h=>h.IsStrIter s1.heap.objs.size (strIterType x) x t i,_,H1,rfl,I1.kept (t':=s1.toks) fun b o e=>iB _ e,Ee (t:=t) ?_,⟨_,nY _ rfl,rfl,rfl⟩,fun b hb=>?_,q⟩
 ·unfold strIterType
  split
  ·exact .inl rfl
  ·exact .inr rfl
 ·have e:b=s1.heap.objs.size:=by simpa using hb
  subst e
  exact I1.fpOk (gR _) (I1.hok.fresh (gR _))
theorem PI.or{tg l:Expr}{a b:TI}(h1:PI X tg l a)(h2:PI X tg l b):PI X tg l (fun σ H R=>a σ H R∨b σ H R):=by
 intro pins s σ H R I h
 rcases h with h |h
 ·exact h1 pins s σ H R I h
 ·exact h2 pins s σ H R I h
end L2
namespace PL
open PySem L2 Nh
def jL(x:Str):List PyData:=x.cps.toList.map fun c=>.str ⟨#[c]⟩
def a8(f:aY):oi:=fun E=>(f E).bind fun a=>(frz a.2 a.1).bind fun b=>match b.1 with
 |.list ds=>some (ds,b.2)
 |.tuple ds=>some (ds,b.2)
 |.str x=>some (jL x,b.2)
 |_=>none
section
variable {X:Cx} {K:Frag} {B:Hp}
theorem Ef:wK K B (LY x) (jL x):=fun {B' F A σ H E xs Xs} i sB fr=>by
 refine⟨fun d ed=>?_,fun e=>by show i=x.cps.toList.length;rw[e];simp[jL]⟩
 unfold jL at ed
 rw[List.getElem?_map]at ed
 obtain⟨c,ec,rfl⟩:=Zad.mp ed
 refine⟨(Zbi.mp ec).1,fun z H2 ⟨e1,c',e2,e3⟩=>?_⟩
 rw[ec]at e2;cases e2
 subst e1 e3
 exact⟨F,A,fr.push ⟨rfl,_,rfl,.str _⟩⟩
theorem Eg{vs:List V}(h:SqT K B a vs)(r:RpA K B vs ds):wK K B (Mj K a) ds:=fun {B' F A σ H E xs Xs} i sB fr=>by
 have hH:=fr.fh.tup (fr.bf.tup (sB.tup h))
 refine⟨fun d ed=>?_,fun e=>⟨vs,hH,by rw[e,r.len];exact gR _⟩⟩
 obtain⟨v,ev,rv⟩:=r.get ed
 refine⟨⟨vs,v,hH,ev⟩,fun x H2 ⟨e2,y⟩=>?_⟩
 subst e2
 have:=y vs hH
 rw[ev]at this
 cases this
 exact⟨F,A,fr.push ⟨rfl,_,rfl,rv.same (sB.trans fr.bf)⟩⟩
theorem bY{tg:Expr}{f:aY}(he:EX X e m f):IX X tg e m (a8 f):=rH (PI.or (Az he) (PI.or (IJ he) (Jt he))) fun σ H R z=>by
 obtain⟨B,E,xs,Xs,ds,E',fr,cl,e,q⟩:=z
 obtain⟨⟨s,E1⟩,e1,e⟩:=Za.mp e
 obtain⟨⟨d,E2⟩,e2,e⟩:=Za.mp e
 have key:∀(v:V) (H1:Hp),Frm X.K B σ H1 E1 (v::xs) (s::Xs)→∃F2 A2 A3,Rp X.K F2 v d∧Same B F2∧FrF X.K F2 F2 A3 σ H1 E2 xs Xs∧FrF X.K B F2 A2 σ H1 E2 (v::xs) (.sh d::Xs):=fun v H1 ⟨F,A,fr1⟩=>by
  obtain⟨F2,A2,fr2⟩:=fr1.frz0 e2
  obtain⟨v',A1,ev,rfl,w,ew,r⟩:=fr2.ext (k:=0) rfl
  cases ev;cases ew
  obtain⟨A3,fr3⟩:=fr2.pop
  exact⟨F2,A2,A3,r,fr2.bf,fr3.raise,fr2⟩
 simp only at e
 split at e
 ·cases e
  refine .inl ⟨B,E,xs,Xs,s,E1,fr,cl,e1,fun v H1 fr1=>?_⟩
  obtain⟨F2,A2,A3,r,sb,fr3,fr2⟩:=key v H1 fr1
  cases r with
  |lst h1 h2=>exact⟨_,rfl,⟨_,fr2.fh.seq h1⟩,q F2 _ _ sb ⟨F2,A3,fr3⟩ (tY h1 h2)⟩
 ·cases e
  refine .inr (.inl ⟨B,E,xs,Xs,s,E1,fr,cl,e1,fun v H1 fr1=>?_⟩)
  obtain⟨F2,A2,A3,r,sb,fr3,fr2⟩:=key v H1 fr1
  cases r with
  |tup h1 h2=>exact⟨_,rfl,⟨_,fr2.fh.tup h1⟩,q F2 _ _ sb ⟨F2,A3,fr3⟩ (Eg h1 h2)⟩
 ·cases e
  refine .inr (.inr ⟨B,E,xs,Xs,s,E1,fr,cl,e1,fun v H1 fr1=>?_⟩)
  obtain⟨F2,A2,A3,r,sb,fr3,fr2⟩:=key v H1 fr1
  cases r
  exact⟨_,rfl,q F2 _ _ sb ⟨F2,A3,fr3⟩ Ef⟩
 ·cases e
end
end PL
namespace PL
open PySem L2 Nh
inductive Cm where
 |lt |le |gt |ge
def Cm.op:Cm→CmpOp
 |.lt=> .Lt
 |.le=> .LtE
 |.gt=> .Gt
 |.ge=> .GtE
def Cm.i:Cm→Int→Int→Bool
 |.lt,i,j=>decide (i < j)
 |.le,i,j=>decide (i≤j)
 |.gt,i,j=>decide (j < i)
 |.ge,i,j=>decide (j≤i)
def Cm.s:Cm→List Nat→List Nat→Bool
 |.lt,i,j=>decide (i < j)
 |.le,i,j=> !decide (j < i)
 |.gt,i,j=>decide (j < i)
 |.ge,i,j=> !decide (i < j)
def fk(c:Cm):PyData→PyData→Option PyData
 |.int i,.int j=>some (.bool (c.i i j))
 |.str x,.str y=>some (.bool (c.s x.cps.toList y.cps.toList))
 |_,_=>none
def Nq(c:Cm):R2:=fun x y H Q=>(∃i j,x=.int i∧y=.int j∧Q (.bl (c.i i j)) H)∨(∃i j,x=.str i∧y=.str j∧Q (.bl (c.s i.cps.toList j.cps.toList)) H)
section
variable {X:Cx} {a b c:Expr} {m1 m2 m3:Bool} {f g h:aY} {pos:Pos} {K:Frag}
theorem t9(c:Cm):OpR X (compareOp c.op) (Nq c):=by
 cases c with
 |lt=>exact OpR.or KJ BV
 |le=>exact OpR.or KL (fun pins s σ H x y v u Q I rx ry h=>by
   obtain⟨i,j,rfl,rfl,q⟩:=h
   obtain⟨t,rfl⟩:=rx
   obtain⟨t',rfl⟩:=ry
   exact PySem.P.le_str (bh I q rfl))
 |gt=>exact OpR.or KM (fun pins s σ H x y v u Q I rx ry h=>by
   obtain⟨i,j,rfl,rfl,q⟩:=h
   obtain⟨t,rfl⟩:=rx
   obtain⟨t',rfl⟩:=ry
   exact PySem.P.gt_str (bh I q rfl))
 |ge=>exact OpR.or KN (fun pins s σ H x y v u Q I rx ry h=>by
   obtain⟨i,j,rfl,rfl,q⟩:=h
   obtain⟨t,rfl⟩:=rx
   obtain⟨t',rfl⟩:=ry
   exact PySem.P.ge_str (bh I q rfl))
theorem t_(c:Cm):wG K (Nq c) (fk c):=fun d1 d2 d v1 v2 H Q e r1 r2=>by
 unfold fk at e
 split at e
 ·cases e;cases r1;cases r2
  exact⟨_,rfl,fun q=>.inl ⟨_,_,rfl,rfl,q⟩⟩
 ·cases e;cases r1;cases r2
  exact⟨_,rfl,fun q=>.inr ⟨_,_,rfl,rfl,q⟩⟩
 ·cases e
theorem ua(c:Cm)(b:Expr):behindInMarks c.op b=false:=by cases c <;> exact uN _
theorem La(c:Cm)(ha:EX X a m1 f)(hb:EX X b m2 g):EX X (.Compare a [c.op] [b] pos) (m1||m2) (ag (hJ (fk c)) m2 f g):=zI (t9 c) (lz (t_ c)) ha hb (ua c b)
theorem rM(c:Cm)(ha:EX X a m1 f)(hb:EX X b m2 g):TX X (.Compare a [c.op] [b] pos) (m1||m2) (dW (ag (hJ (fk c)) m2 f g)):=rC (t9 c) (lz (t_ c)) ha hb (ua c b)
theorem Lb(c1 c2:Cm)(ha:EX X a m1 f)(hb:EX X b m2 g)(hc:EX X c m3 h)(hm:lastMarks [c1.op,c2.op] [b,c]=false:=by with_unfolding_all rfl):EX X (.Compare a [c1.op,c2.op] [b,c] pos) (m1||(m2||m3)) (m8 (fk c1) (fk c2) m2 m3 f g h):=DZ (t9 c1) (t9 c2) (t_ c1) (t_ c2) ha hb hc hm
theorem Lc(c1 c2:Cm)(ha:EX X a m1 f)(hb:EX X b m2 g)(hc:EX X c m3 h)(hm:lastMarks [c1.op,c2.op] [b,c]=false:=by with_unfolding_all rfl):TX X (.Compare a [c1.op,c2.op] [b,c] pos) (m1||(m2||m3)) (dW (m8 (fk c1) (fk c2) m2 m3 f g h)):=D3 (t9 c1) (t9 c2) (t_ c1) (t_ c2) ha hb hc hm
def Eh:P2:=hJ (yS (fun _ j=>decide (0≤j)) fun i j=>.int (i / 2 ^ j.toNat))
def wM:P2:=hJ (yS (fun _ _=>true) fun i j=>.int (Builtin.bitAnd i j))
theorem Ek(ha:EX X a m1 f)(hb:EX X b m2 g):EX X (.BinOp a .RShift b pos) (m1||m2) (ag Eh m2 f g):=pX (r:=HY (fun _ j=>decide (0≤j)) fun i j=>.int (i / 2 ^ j.toNat)) (OpR.imp IS fun x y H Q ⟨i,j,a,b,c,q⟩=>⟨i,j,a,b,zz5 c,q⟩) (oZ fun _ _=>rfl) ha hb
theorem vz(ha:EX X a m1 f)(hb:EX X b m2 g):EX X (.BinOp a .BitAnd b pos) (m1||m2) (ag wM m2 f g):=pX (r:=HY (fun _ _=>true) fun i j=>.int (Builtin.bitAnd i j)) (OpR.imp IT fun x y H Q ⟨i,j,a,b,_,q⟩=>⟨i,j,a,b,q⟩) (oZ fun _ _=>rfl) ha hb
def iE:List PyData→Option (List Str)
 |[]=>some []
 |.str x::ds=>(iE ds).map fun xs=>x::xs
 |_::_=>none
def vA:List PyData→Option (List Int)
 |[]=>some []
 |.int x::ds=>(vA ds).map fun xs=>x::xs
 |_::_=>none
theorem j6:∀{ds:List PyData} {xs:List Str},iE ds=some xs→ds=xs.map .str
 |[],xs,h=>by cases h;rfl
 |d::ds,xs,h=>by
  cases d with
  |str x=>
   obtain⟨ys,e,rfl⟩:=Zad.mp h
   rw[j6 e];rfl
  |_=>cases h
theorem o6:∀{ds:List PyData} {xs:List Int},vA ds=some xs→ds=xs.map .int
 |[],xs,h=>by cases h;rfl
 |d::ds,xs,h=>by
  cases d with
  |int x=>
   obtain⟨ys,e,rfl⟩:=Zad.mp h
   rw[o6 e];rfl
  |_=>cases h
theorem lC{H:Hp}:∀{vs:List V} {xs:List Str},RpA K H vs (xs.map .str)→vs=xs.map .str
 |[],[],_=>rfl
 |v::vs,x::xs,.cons h r=>by cases h;rw[lC r];rfl
theorem rN{H:Hp}:∀{vs:List V} {xs:List Int},RpA K H vs (xs.map .int)→vs=xs.map .int
 |[],[],_=>rfl
 |v::vs,x::xs,.cons h r=>by cases h;rw[rN r];rfl
def Ld:PyData→PyData→Option Bool
 |.str x,.str y=>some (!(Builtin.Str.occurrences y x 0 y.length 1).isEmpty)
 |.str x,.list ds=>(iE ds).map fun xs=>xs.contains x
 |.str x,.tuple ds=>(iE ds).map fun xs=>xs.contains x
 |.int x,.list ds=>(vA ds).map fun xs=>xs.contains x
 |.int x,.tuple ds=>(vA ds).map fun xs=>xs.contains x
 |_,_=>none
def Ju(K:Frag)(neg:Bool):R2:=fun x y H Q=>(∃i j,x=.str i∧y=.str j∧Q (.bl (if neg then !(!(Builtin.Str.occurrences j i 0 j.length 1).isEmpty)else !(Builtin.Str.occurrences j i 0 j.length 1).isEmpty)) H)∨Mt K neg x y H Q
theorem wN(x:Str)(xs:List Str):HV (.str x) (xs.map .str)=xs.contains x:=by
 induction xs with
 |nil=>rfl
 |cons y xs ih=>
  rw[List.contains_cons,←ih]
  show(F4 (.str y) (.str x)||HV (.str x) (xs.map .str))=_
  congr 1
  show(y == x)=(x == y)
  exact BEq.comm
theorem wO(x:Int)(xs:List Int):HV (.int x) (xs.map .int)=xs.contains x:=by
 induction xs with
 |nil=>rfl
 |cons y xs ih=>
  rw[List.contains_cons,←ih]
  show(F4 (.int y) (.int x)||HV (.int x) (xs.map .int))=_
  congr 1
  show(y == x)=(x == y)
  exact BEq.comm
theorem zL(neg:Bool):wG K (Ju K neg) (fun d1 d2=>(Ld d1 d2).map fun b=>.bool (if neg then !b else b)):=fun d1 d2 d v1 v2 H Q e r1 r2=>by
 obtain⟨b,e',rfl⟩:=Zad.mp e
 clear e
 have e:=e'
 clear e'
 refine⟨_,rfl,fun q=>?_⟩
 have hs:∀xs:List Str,(xs.map V.str).all jF=true:=fun xs=>by simp[List.all_eq_true,jF]
 have hi:∀xs:List Int,(xs.map V.int).all jF=true:=fun xs=>by simp[List.all_eq_true,jF]
 unfold Ld at e
 split at e
 ·cases e;cases r1;cases r2
  exact .inl ⟨_,_,rfl,rfl,q⟩
 ·obtain⟨xs,ex,rfl⟩:=Zad.mp e
  cases r1
  cases r2 with
  |lst h1 h2=>
   rw[j6 ex]at h2
   rw[lC h2]at h1
   exact .inr ⟨_,_,rfl,.inl h1,rfl,hs _,by rw[wN];exact q⟩
 ·obtain⟨xs,ex,rfl⟩:=Zad.mp e
  cases r1
  cases r2 with
  |tup h1 h2=>
   rw[j6 ex]at h2
   rw[lC h2]at h1
   exact .inr ⟨_,_,rfl,.inr h1,rfl,hs _,by rw[wN];exact q⟩
 ·obtain⟨xs,ex,rfl⟩:=Zad.mp e
  cases r1
  cases r2 with
  |lst h1 h2=>
   rw[o6 ex]at h2
   rw[rN h2]at h1
   exact .inr ⟨_,_,rfl,.inl h1,rfl,hi _,by rw[wO];exact q⟩
 ·obtain⟨xs,ex,rfl⟩:=Zad.mp e
  cases r1
  cases r2 with
  |tup h1 h2=>
   rw[o6 ex]at h2
   rw[rN h2]at h1
   exact .inr ⟨_,_,rfl,.inr h1,rfl,hi _,by rw[wO];exact q⟩
 ·cases e
def F7(neg:Bool):P2:=hJ fun d1 d2=>(Ld d1 d2).map fun b=>.bool (if neg then !b else b)
theorem El:OpR X (compareOp .In) (Ju X.K false):=OpR.or BW B3
theorem Cg:OpR X (compareOp .NotIn) (Ju X.K true):=OpR.or uR uQ
theorem Lf(ha:EX X a m1 f)(hb:EX X b m2 g)(hm:behindInMarks .In b=false:=by with_unfolding_all rfl):EX X (.Compare a [.In] [b] pos) (m1||m2) (ag (F7 false) m2 f g):=zI El (lz (zL false)) ha hb hm
theorem Lg(ha:EX X a m1 f)(hb:EX X b m2 g)(hm:behindInMarks .In b=false:=by with_unfolding_all rfl):TX X (.Compare a [.In] [b] pos) (m1||m2) (dW (ag (F7 false) m2 f g)):=rC El (lz (zL false)) ha hb hm
theorem Em(ha:EX X a m1 f)(hb:EX X b m2 g)(hm:behindInMarks .NotIn b=false:=by with_unfolding_all rfl):TX X (.Compare a [.NotIn] [b] pos) (m1||m2) (dW (ag (F7 true) m2 f g)):=rC Cg (lz (zL true)) ha hb hm
end
def vB:List PyData→Option PyData
 |[.int i]=>some (.int i)
 |[.bool b]=>some (.int (if b then 1 else 0))
 |_=>none
def rO(x:Str):PyData→Option PyData
 |.list ds=>(iE ds).bind fun ys=>if (ys.map (·.length)).sum+ys.length*x.length≤1000000 then some (.str (Txt.join x ys))else none
 |.tuple ds=>(iE ds).bind fun ys=>if (ys.map (·.length)).sum+ys.length*x.length≤1000000 then some (.str (Txt.join x ys))else none
 |_=>none
theorem ub{ys:List Str}:∀{us:List Value},Vals (ys.map V.str) us→PyProof.Rows.StrsAre us ys:=by
 induction ys with
 |nil=>intro us h;cases h;exact .nil
 |cons y ys ih=>
  intro us h
  cases h with
  |cons h r=>
   obtain⟨t,rfl⟩:=h
   exact .cons y t (ih r)
def Lh(K:Frag):V→List V→Hp→VK→Prop:=fun x vs H Q=>∃z p ys,x=.str z∧vs=[.ref p]∧(SqL K H p (ys.map .str)∨SqT K H p (ys.map .str))∧(ys.map (·.length)).sum+ys.length*z.length≤16777216∧Q (.str (Txt.join z ys)) H
theorem GR:Kn X "str.join" (Lh X.K):=by
 intro pins s σ H x vs v us Q I rx rv h
 obtain⟨z,p,ys,rfl,rfl,hq,hl,q⟩:=h
 obtain⟨t,rfl⟩:=rx
 obtain⟨u,rfl,ru⟩:=rv.one
 cases ru
 rcases hq with hq |hq
 ·obtain⟨its,r,pl,_⟩:=I.list hq
  exact PyProof.Rows.join_list pl.isList (by simpa using ub r) hl fun t' k=>⟨.str _,H,I.tok _,⟨_,rfl⟩,q⟩
 ·obtain⟨its,r,pl,_⟩:=I.tuple hq
  exact PyProof.Rows.join_tuple pl (by simpa using ub r) hl fun t' k=>⟨.str _,H,I.tok _,⟨_,rfl⟩,q⟩
section
variable {X:Cx} {e o:Expr} {m1 m2:Bool} {g:rB} {f h:aY} {p pos apos cpos:Pos} {K:Frag}
theorem AR(hg:Gl X "int") (hm:X.mg "int"=none) (ha:AX X [e] m1 g) (he:starEach [e] X.env=[(false,eval e X.env)]:=by rfl):EX X (.Call (.Name "int" p) [e] [] pos) m1 (bD vB g):=
 bx (l6 BX hg hm PyProof.Rows.boot_int ha (by decide) (by decide) he rfl) fun _ _ _ z=>D6 (fun ds d vs H Q e r=>by
  unfold vB at e
  split at e
  ·cases e
   obtain⟨v,rfl,r'⟩:=r.one
   cases r'
   exact⟨_,rfl,fun q=>.inl ⟨_,rfl,q⟩⟩
  ·cases e
   obtain⟨v,rfl,r'⟩:=r.one
   cases r'
   exact⟨_,rfl,fun q=>.inr ⟨_,rfl,q⟩⟩
  ·cases e) z
def d4(x:Str)(f:aY):aY:=mF (rO x) f
theorem jH{sp:Pos} (he:EX X e m1 f) (hs:starEach [e] X.env=[(false,eval e X.env)]:=by rfl) (hbase:attributeBase (.Constant (.str x) j sp) "join" X.env (eval (.Constant (.str x) j sp) X.env)=eval (.Constant (.str x) j sp) X.env:=by rfl)
  (hfew:((backTo cpos (starEach [e] X.env)).all (fun x=> !x.1)&&(backToKw cpos (keywordEach [] X.env)).all (fun x=>x.1.isSome)
   &&decide (([e]:List Expr).length+([]:List Keyword).length+(if ([]:List Keyword).isEmpty then 0 else 1) < 30))=true:=by rfl) (hline:(apos.endLine == cpos.line)=true:=by rfl):
  EX X (.Call (.Attribute (.Constant (.str x) j sp) "join" apos) [e] [] cpos) m1 (d4 x f):=by
 refine bx (wx PySem.F.plainAttrs_str PySem.F.slot_str_join PySem.F.type_str_join GR (yY) (cw he eY hs) hbase hfew hline hs rfl) fun σ H Q z=>?_
 obtain⟨B,E,xs,Xs,res,E',fr,c,e,q⟩:=z
 obtain⟨⟨s1,E1⟩,e1,e⟩:=Za.mp e
 obtain⟨d1,e2,e⟩:=Za.mp e
 obtain⟨d,e3,e⟩:=Zad.mp e
 cases e
 refine⟨rfl,B,E,xs,Xs,s1,E1,fr,c,e1,fun v1 H1 ⟨F,A,fr1⟩=>?_⟩
 have r:=(fr1.look0 e2).1
 obtain⟨A',fr2⟩:=fr1.pop
 unfold rO at e3
 split at e3
 ·obtain⟨ys,ey,e3⟩:=Za.mp e3
  split at e3
  ·rename_i hl
   cases e3
   cases r with
   |lst h1 h2=>
    rw[j6 ey]at h2
    rw[lC h2]at h1
    exact⟨x,_,ys,rfl,rfl,.inl h1,by omega,q _ _ ⟨F,A',fr2.push ⟨rfl,_,rfl,.str _⟩⟩⟩
  ·cases e3
 ·obtain⟨ys,ey,e3⟩:=Za.mp e3
  split at e3
  ·rename_i hl
   cases e3
   cases r with
   |tup h1 h2=>
    rw[j6 ey]at h2
    rw[lC h2]at h1
    exact⟨x,_,ys,rfl,rfl,.inr h1,by omega,q _ _ ⟨F,A',fr2.push ⟨rfl,_,rfl,.str _⟩⟩⟩
  ·cases e3
 ·cases e3
end
theorem iu:SX X st (fun _=>none):=m5 Dw fun D σ H z=>by
 obtain⟨B,E,xs,Xs,E',fl,fr,cl,e,q⟩:=z
 cases e
def iF:bX:=fun _=>none
end PL
namespace PL
open PySem L2 Nh
theorem Jv:SlR X (fun x lo hi H Q=>∃z,x=.str z∧z.length≤sizeLine∧Q (.str (Txt.slice z lo hi)) H):=by
 intro pins s σ H x v vl vu lo hi sl Q I rx hs pl pu h
 obtain⟨z,rfl,hz,q⟩:=h
 obtain⟨t,rfl⟩:=rx
 cases pl with
 |none=>
  cases pu with
  |none=>exact⟨"str",_,PySem.F.slot_str_getitem.lookup,typeIs_str _ _ _,wpAny_getItem_str_slice (l:=none) (u:=none) (st:=none) hs rfl (post_val_or_str ⟨jS (Txt.slice_le z _ _) hz,fun t' k=>⟨.str _,H,I.tok _,⟨_,rfl⟩,q⟩⟩)⟩
  |int j uj=>exact⟨"str",_,PySem.F.slot_str_getitem.lookup,typeIs_str _ _ _,wpAny_getItem_str_slice (l:=none) (u:=some (j,uj)) (st:=none) hs rfl (post_val_or_str ⟨jS (Txt.slice_le z _ _) hz,fun t' k=>⟨.str _,H,I.tok _,⟨_,rfl⟩,q⟩⟩)⟩
 |int i ui=>
  cases pu with
  |none=>exact⟨"str",_,PySem.F.slot_str_getitem.lookup,typeIs_str _ _ _,wpAny_getItem_str_slice (l:=some (i,ui)) (u:=none) (st:=none) hs rfl (post_val_or_str ⟨jS (Txt.slice_le z _ _) hz,fun t' k=>⟨.str _,H,I.tok _,⟨_,rfl⟩,q⟩⟩)⟩
  |int j uj=>exact⟨"str",_,PySem.F.slot_str_getitem.lookup,typeIs_str _ _ _,wpAny_getItem_str_slice (l:=some (i,ui)) (u:=some (j,uj)) (st:=none) hs rfl (post_val_or_str ⟨jS (Txt.slice_le z _ _) hz,fun t' k=>⟨.str _,H,I.tok _,⟨_,rfl⟩,q⟩⟩)⟩
def fP(m2:Bool)(f:aY)(lo hi:Ib):aY:=fun E=>(f E).bind fun a=>if m2&&a.1.isBr then none else (lo a.2).bind fun b=>(hi b.2).bind fun c=>match look c.2 a.1 with
 |some (.list ds)=>if !oh c.2 a.1||bg (B9 ds b.1 c.1)then some (.ow (B9 ds b.1 c.1),c.2)else none
 |some (.str z)=>if z.length≤1000000 then some (.sh (.str (Txt.slice z b.1 c.1)),c.2)else none
 |_=>none
theorem gW{lo hi:Option Expr}{f:aY}{g h:Ib}{pos:Pos}(he:EX X e m1 f)(hl:OX X lo m2 g)(hh:OX X hi m3 h):EX X (.Subscript e (.Slice lo hi none p2) pos) (m1||(m2||m3)) (fP (m2||m3) f g h):=by
 refine bx (DJ (SlR.or Gs Jv) he hl hh) fun σ H Q z=>?_
 obtain⟨B,E,xs,Xs,res,E',fr,cl,e,q⟩:=z
 obtain⟨⟨s,E1⟩,e1,e⟩:=Za.mp e
 by_cases hb:((m2||m3)&&s.isBr)=true
 ·rw[if_pos hb]at e;cases e
 rw[if_neg hb]at e
 have n1:(m2||m3)=true→s.isBr=false:=fun z=>by
  cases hs:s.isBr with
  |false=>rfl
  |true=>exact absurd (by rw[z,hs];rfl) hb
 obtain⟨⟨l,E2⟩,e2,e⟩:=Za.mp e
 obtain⟨⟨u,E3⟩,e3,e⟩:=Za.mp e
 refine⟨B,E,xs,Xs,s,E1,fr,fun z=>cl (by simp[z]),e1,fun v1 H1 fr1=>?_⟩
 refine⟨B,E1,v1::xs,s::Xs,l,E2,fr1,fun z=>Calm.cons (cl (by simp[z])) (n1 (by simp[z])),e2,fun H2 fr2=>?_⟩
 refine⟨B,E2,v1::xs,s::Xs,u,E3,fr2,fun z=>Calm.cons (cl (by simp[z])) (n1 (by simp[z])),e3,fun H3 ⟨F,A,fr3⟩=>?_⟩
 simp only at e
 split at e
 ·rename_i ds ld
  split at e
  ·rename_i hc
   cases e
   obtain⟨v,ev,r,f0⟩:=fr3.look (k:=0) rfl ld
   cases ev
   obtain⟨A',fr4⟩:=fr3.pop
   cases hh:oh E' s with
   |false=>
    obtain⟨a,vs,rfl,h1,h2⟩:=f0 hh
    exact .inl ⟨a,vs,rfl,h1,fun p hp=>q _ _ ⟨F,_,fr4.newl (h2.cut l u) hp⟩⟩
   |true=>
    rw[hh]at hc
    cases r with
    |lst h1 h2=>exact .inl ⟨_,_,rfl,h1,fun p hp=>q _ _ ⟨F,_,fr4.newl (fr3.coldA (h2.cut l u) (by simpa using hc)) hp⟩⟩
  ·cases e
 ·rename_i z ld
  split at e
  ·rename_i hc
   cases e
   have r:=(fr3.look0 ld).1
   cases r
   obtain⟨A',fr4⟩:=fr3.pop
   exact .inr ⟨_,rfl,i_ hc,q _ _ ⟨F,A',fr4.push ⟨rfl,_,rfl,.str _⟩⟩⟩
  ·cases e
 ·cases e
def wP(scope:Scope)(env:Env):List (Str×Addr):=((scope.names.filter fun p=>p.2 ==.free).map fun p=>(p.1,(env.cells.lookup p.1).getD 0)).reverse
theorem fS{N:List Str}(clos:closureFor scope X.env=pure (wP scope X.env):=by rfl)(nocell:∀y∈scope.names,y.2≠ .cell:=by decide+kernel)(kind:scope.kind=.function:=by rfl)
  (names:∀y∈scope.names,y.2=.local→scope.names.lookup y.1=some .local:=by decide+kernel) (same:(scope.names.filter fun p=>p.2 ==.free).all (fun p=>(X.env.cells.lookup p.1).isSome)=true:=by rfl)
  (has:(relabel scope X.env).names.all (fun y=> !(y.2 ==.cell||y.2 ==.free)||((wP scope X.env).lookup y.1).isSome)=true:=by rfl) (len:js.length=N.length:=by rfl)
  (fr:(js.zip N).all (fun p=>match p.1 with |none=>true |some j=>X.N[j]? == some p.2&&((relabel scope X.env).names.lookup p.2 == some .cell||(relabel scope X.env).names.lookup p.2 == some .free)&&(X.env.kindOf p.2 == some .cell||X.env.kindOf p.2 == some .free))=true:=by rfl):
  CompOk X scope (relabel scope X.env) (wP scope X.env) N js where
 clos:=clos
 rel:=rfl
 nocell:=nocell
 kind:=kind
 names:=names
 same:=fun x c e=>by
  have hm:=PySem.mem_of_lookup e
  unfold wP at hm
  obtain⟨p,hp,ep⟩:=Zay.mp (List.mem_reverse.mp hm)
  have:=List.all_eq_true.mp same _ hp
  obtain⟨c',ec⟩:=Option.isSome_iff_exists.mp this
  injection ep with e1 e2
  subst e1
  rw[ec]at e2 ⊢
  exact congrArg some e2
 has:=fun x h=>by
  have key:∀k,(relabel scope X.env).names.lookup x=some k→(k == NameKind.cell||k == NameKind.free)=true→∃c,(wP scope X.env).lookup x=some c:=fun k h hk=>by
   have:=List.all_eq_true.mp has _ (PySem.mem_of_lookup h)
   simp only[hk,Bool.not_true,Bool.false_or]at this
   exact Option.isSome_iff_exists.mp this
  rcases h with h |h
  ·exact key _ h rfl
  ·exact key _ h rfl
 len:=len
 from_:=fun i j h=>by
  have hi:i < js.length:=(Zbi.mp h).1
  obtain⟨x,ex⟩:∃x,N[i]? =some x:=⟨N[i]'(by omega),yN (by omega)⟩
  have hz:(js.zip N)[i]? =some (some j,x):=by rw[List.getElem?_zip_eq_some];exact⟨h,ex⟩
  have:=List.all_eq_true.mp fr _ (List.mem_of_getElem? hz)
  simp only[yQ,Bool.or_eq_true,beq_iff_eq]at this
  exact⟨x,ex,this.1.1,this.1.2,this.2⟩
structure Bn (mg:Str→Option Value):Prop where
 len:mg "len"=none
 range:mg "range"=none
 abs:mg "abs"=none
 min:mg "min"=none
 max:mg "max"=none
 reversed:mg "reversed"=none
 enumerate:mg "enumerate"=none
 isinstance:mg "isinstance"=none
 list:mg "list"=none
 tuple:mg "tuple"=none
 str:mg "str"=none
 int:mg "int"=none
 bool:mg "bool"=none
 sorted:mg "sorted"=none
 zip:mg "zip"=none
 sum:mg "sum"=none
 any:mg "any"=none
 all:mg "all"=none
 set:mg "set"=none
 dict:mg "dict"=none
theorem Li{K:Frag}{mg:Str→Option Value}(X:K.In h)(G:h.Ns mainGlobals mg)
  (z1:nsIn K mainGlobals "len"=some none) (z2:nsIn K mainGlobals "range"=some none) (z3:nsIn K mainGlobals "abs"=some none) (z4:nsIn K mainGlobals "min"=some none) (z5:nsIn K mainGlobals "max"=some none) (z6:nsIn K mainGlobals "reversed"=some none) (z7:nsIn K mainGlobals "enumerate"=some none) (z8:nsIn K mainGlobals "isinstance"=some none) (z9:nsIn K mainGlobals "list"=some none) (z10:nsIn K mainGlobals "tuple"=some none) (z11:nsIn K mainGlobals "str"=some none) (z12:nsIn K mainGlobals "int"=some none) (z13:nsIn K mainGlobals "bool"=some none) (z14:nsIn K mainGlobals "sorted"=some none) (z15:nsIn K mainGlobals "zip"=some none) (z16:nsIn K mainGlobals "sum"=some none) (z17:nsIn K mainGlobals "any"=some none) (z18:nsIn K mainGlobals "all"=some none) (z19:nsIn K mainGlobals "set"=some none) (z20:nsIn K mainGlobals "dict"=some none):Bn mg:=
 ⟨mg_none_of X G z1,mg_none_of X G z2,mg_none_of X G z3,mg_none_of X G z4,mg_none_of X G z5,mg_none_of X G z6,mg_none_of X G z7,mg_none_of X G z8,mg_none_of X G z9,mg_none_of X G z10,mg_none_of X G z11,mg_none_of X G z12,mg_none_of X G z13,mg_none_of X G z14,mg_none_of X G z15,mg_none_of X G z16,mg_none_of X G z17,mg_none_of X G z18,mg_none_of X G z19,mg_none_of X G z20⟩
end PL
namespace PL
open PySem PySem.Spec L2 Nh PyProof.Rows
def NJ(i:Int):Prop:= -1000000≤i∧i≤1000000
instance (i:Int):Decidable (NJ i):=inferInstanceAs (Decidable (_∧_))
theorem fits{i:Int}(h: -10000000≤i∧i≤10000000):Builtin.Range.rangeFitsLong i=true:=by
 unfold Builtin.Range.rangeFitsLong
 simp only[yQ,decide_eq_true_eq]
 omega
end PL
namespace PL
open PySem L2 Nh
theorem wQ{w:World}{K:Frag}{mg:Str→Option Value}{base:Heap}{N:List Str}(D:Def K mg x st ps)(S:FnScope N ps (aq st)):Own P w K mg base (k+1) x ps (gh K fun _=>none):=by
 refine D.own S (fun vs H Q E h=>?_) (fun f cdv A outer s H vs Q E hr h=>?_)
 ·obtain⟨ds,r,e,_⟩:=h
  cases e
 ·obtain⟨ds,r,e,_⟩:=h
  cases e
end PL
namespace PL
open PySem L2 Nh
def hW:List PyData→Option (List Bool)
 |[]=>some []
 |.bool b::ds=>(hW ds).map (b:: ·)
 |_=>none
def GS:List PyData→Option PyData
 |[.list ds]=>(hW ds).map fun bs=>.bool (bs.all id)
 |_=>none
def zM(K:Frag)(f:List Bool→Bool):List V→Hp→VK→Prop:=fun xs H Q=>∃p bs,xs=[.ref p]∧SqL K H p (bs.map V.bl)∧Q (.bl (f bs)) H
theorem oq{K:Frag}{H:Hp}:∀{vs:List V} {ds:List PyData} {bs:List Bool},RpA K H vs ds→hW ds=some bs→vs=bs.map V.bl
 |_,_,bs,.nil,e=>by cases e;rfl
 |_,_,bs,.cons (d:=d) h t,e=>by
  cases d <;> simp[hW]at e
  obtain⟨cs,e,rfl⟩:=e
  cases h
  rw[oq t e]
  rfl
theorem En{K:Frag}{f:List Bool→Bool}:D5 K (zM K f) (fun ds=>match ds with
 |[.list ds]=>(hW ds).map fun bs=>.bool (f bs)
 |_=>none):=fun ds d vs H Q e r=>by
 simp only at e
 split at e
 ·obtain⟨bs,eb,rfl⟩:=Zad.mp e
  obtain⟨v,rfl,r1⟩:=r.one
  cases r1 with
  |lst h1 h2=>
   have:=oq h2 eb
   subst this
   exact⟨_,rfl,fun q=>⟨_,bs,rfl,h1,q⟩⟩
 ·cases e
theorem uc:∀bs:List Bool,(List.range bs.length).all (fun i=>bs.getD i false)=bs.all id
 |[]=>rfl
 |b::bs=>by
  rw[List.length_cons,List.range_succ_eq_map,List.all_cons,List.all_map,List.all_cons,←uc bs]
  rfl
section
variable {X:Cx} {e:Expr} {es:List Expr} {m1:Bool} {g:rB} {p pos:Pos}
theorem rP:∀{bs:List Bool} {us:List Value},Vals (bs.map V.bl) us→us=bs.map Value.bool
 |[],_,.nil=>rfl
 |b::bs,_,.cons h t=>by cases h;rw[rP t];rfl
theorem qQ{bs:List Bool}{i:Nat}{v:Value}(h:(bs.map Value.bool).toArray[i]? =some v):v=.bool (bs.getD i false):=by
 rw[List.getElem?_toArray,List.getElem?_map]at h
 obtain⟨b,e,rfl⟩:=Zad.mp h
 rw[List.getD_eq_getElem?_getD,e]
 rfl
theorem Ci(hc:X.calm=true):CallR X (.builtin "all") (zM X.K fun bs=>bs.all id):=by
 intro pins s σ H xs us Q I r h
 obtain⟨a,bs,rfl,hq,q⟩:=h
 cases r with
 |cons r rr=>
  cases rr
  cases r
  obtain⟨its,rv,pl,hz⟩:=I.list hq
  have:=rP rv
  subst this
  obtain⟨o,n,eo,_⟩:=id pl
  have hlt:a < s.heap.objs.size:=iC eo
  refine call_all_walk (wpAny_pyIter_list pl.isList ?_)
  refine⟨s.heap.objs.size,_,_,_,_,_,fun i=>bs.getD i false,rfl,Walks.list (A:=X.A.in1) (I.ok.hd hc) s.heap.objs.size a (jE hlt) (bs.map Value.bool).toArray,?_,?_,?_⟩
  ·exact⟨⟨_,nY _ rfl,rfl,rfl⟩,pl.isList.at fun o e=>iB _ e⟩
  ·intro i v s Q E hv hQ
   rw[qQ hv]
   exact wpAny_truthy_bool hQ
  ·intro h' tk hk
   refine⟨.bl _,H,I.kept (t':=tk) fun b o e=>hk b o (fun z=>?_) (iB _ e),rfl,?_⟩
   ·have:b=s.heap.objs.size:=by simpa using z
    exact Nat.lt_irrefl _ (this▸iC e)
   ·rw[show((bs.map Value.bool).toArray).size=bs.length by simp,uc]
    exact q
theorem Jw(hc:X.calm=true) (hg:Gl X "all") (hm:X.mg "all"=none) (ha:AX X [e] m1 g) (he:starEach [e] X.env=[(false,eval e X.env)]:=by rfl):EX X (.Call (.Name "all" p) [e] [] pos) m1 (bD GS g):=oj (r:=zM X.K fun bs=>bs.all id) En (Ci hc) hg hm PyProof.Rows.boot_all ha (by decide) (by decide) he rfl
def qa:List PyData→Option (List Int)
 |[]=>some []
 |.int i::ds=>(qa ds).map (i:: ·)
 |_=>none
def rQ:List PyData→Option PyData
 |[.list ds]=>(qa ds).map fun ns=>.int ns.sum
 |_=>none
def Jx(K:Frag):List V→Hp→VK→Prop:=fun xs H Q=>∃(p:Addr) (ns:List Int),xs=[.ref p]∧SqL K H p (ns.map V.int)∧Q (.int ns.sum) H
theorem AS{K:Frag}{H:Hp}:∀{vs:List V} {ds:List PyData} {bs:List Int},RpA K H vs ds→qa ds=some bs→vs=bs.map V.int
 |_,_,bs,.nil,e=>by cases e;rfl
 |_,_,bs,.cons (d:=d) h t,e=>by
  cases d <;> simp[qa]at e
  obtain⟨cs,e,rfl⟩:=e
  cases h
  rw[AS t e]
  rfl
theorem Jy{K:Frag}:D5 K (Jx K) rQ:=fun ds d vs H Q e r=>by
 unfold rQ at e
 split at e
 ·obtain⟨bs,eb,rfl⟩:=Zad.mp e
  obtain⟨v,rfl,r1⟩:=r.one
  cases r1 with
  |lst h1 h2=>
   have:=AS h2 eb
   subst this
   exact⟨_,rfl,fun q=>⟨_,bs,rfl,h1,q⟩⟩
 ·cases e
theorem jU:∀{ns:List Int} {us:List Value},Vals (ns.map V.int) us→us.length=ns.length∧∀(i:Nat) (v:Value),us[i]? =some v→∃t,v=Value.int (ns.getD i 0) t
 |[],_,.nil=>⟨rfl,fun i v h=>by simp at h⟩
 |n::ns,_,.cons h t=>by
  obtain⟨tk,rfl⟩:=h
  obtain⟨h1,h2⟩:=jU t
  refine⟨by simp[h1],fun i v h=>?_⟩
  cases i with
  |zero=>simp at h;subst h;exact⟨tk,rfl⟩
  |succ i=>simpa using h2 i v (by simpa using h)
theorem qc(ns:List Int):∀k,k≤ns.length→preSum (fun i=>ns.getD i 0) k=(ns.take k).sum
 | 0,_=>by simp[preSum]
 |k+1,h=>by
  have hk:k < ns.length:=by omega
  rw[preSum,qc ns k (by omega),List.take_add_one,yN hk,List.sum_append]
  simp[List.getD_eq_getElem?_getD,hk]
theorem Cj(hc:X.calm=true):CallR X (.builtin "sum") (Jx X.K):=by
 intro pins s σ H xs us Q I r h
 obtain⟨a,ns,rfl,hq,q⟩:=h
 cases r with
 |cons r rr=>
  cases rr
  cases r
  obtain⟨its,rv,pl,hz⟩:=I.list hq
  obtain⟨hl,hv⟩:=jU rv
  obtain⟨o,n,eo,_⟩:=id pl
  have hlt:a < s.heap.objs.size:=iC eo
  refine call_sum_walkG (wpAny_pyIter_list pl.isList ?_)
  refine⟨s.heap.objs.size,_,_,_,_,_,fun i=>ns.getD i 0,rfl,Walks.list (A:=X.A.in1) (I.ok.hd hc) s.heap.objs.size a (jE hlt) its.toArray,?_,?_,?_,?_⟩
  ·exact⟨⟨_,nY _ rfl,rfl,rfl⟩,pl.isList.at fun o e=>iB _ e⟩
  ·intro b hb
   have hsz:∀o,(s.heap.push o).objs.size=s.heap.objs.size+1:=fun o=>by simp[Heap.push]
   show b < (s.heap.push _).objs.size
   rw[hsz]
   rcases Zap.mp hb with rfl |hb
   ·exact zzA _
   ·have:b=a:=by simpa using hb
    subst this
    exact yP hlt
  ·intro i v h
   exact hv i v (by simpa using h)
  ·intro h' tk t' hk
   refine⟨.int _,H,I.kept (t':=tk) fun b o e=>hk b o (fun z=>?_) (iB _ e),⟨t',rfl⟩,?_⟩
   ·have:b=s.heap.objs.size:=by simpa using z
    exact Nat.lt_irrefl _ (this▸iC e)
   ·rw[show its.toArray.size=ns.length by simpa using hl,qc ns _ (gR _),List.take_length]
    exact q
theorem Eo(hc:X.calm=true) (hg:Gl X "sum") (hm:X.mg "sum"=none) (ha:AX X [e] m1 g) (he:starEach [e] X.env=[(false,eval e X.env)]:=by rfl):EX X (.Call (.Name "sum" p) [e] [] pos) m1 (bD rQ g):=oj (r:=Jx X.K) Jy (Cj hc) hg hm PyProof.Rows.boot_sum ha (by decide) (by decide) he rfl
end
end PL
namespace PL
open PySem L2 Nh
def vC(a b:Str):Bool:=decide (a.cps.toList≤b.cps.toList)
def jI(ss:List Str):List Str:=ss.mergeSort vC
theorem mh(a b c:Str)(h:vC a b=true)(k:vC b c=true):vC a c=true:=zz4 (List.le_trans (zz5 h) (zz5 k))
theorem o7(a b:Str):(vC a b||vC b a)=true:=by
 rcases List.le_total a.cps.toList b.cps.toList with h |h
 ·simp[vC,h]
 ·simp[vC,h]
theorem rR{a b:Str}(h:vC a b=true)(k:vC b a=true):a=b:=by
 have e:=List.le_antisymm (zz5 h) (zz5 k)
 cases a;cases b
 simp only at e
 rw[Array.toList_inj.mp e]
theorem ud:∀(p:Str) (l:List Str),PyProof.Rows.risingS p l=true→(p::l).Pairwise (fun a b=>vC a b=true)
 |p,[],_=>by simp
 |p,x::r,h=>by
  have h':(!PySem.Spec.ltCps x.cps.toList p.cps.toList&&PyProof.Rows.risingS x r)=true:=h
  rw[yQ,PyProof.Rows.ltCps_eq]at h'
  have ih:=ud x r h'.2
  have hpx:vC p x=true:=by
   have:=h'.1
   simp only[BO,decide_eq_false_iff_not]at this
   exact zz4 this
  refine List.pairwise_cons.mpr ⟨fun y hy=>?_,ih⟩
  rcases Zap.mp hy with rfl |hy
  ·exact hpx
  ·exact mh p x y hpx ((List.pairwise_cons.mp ih).1 y hy)
theorem Ck:∀l:List Str,PyProof.Rows.sortedS l=true→l.Pairwise (fun a b=>vC a b=true)
 |[],_=>List.Pairwise.nil
 |x::r,h=>ud x r h
theorem rS{a b:List Str}(p:a.Perm b)(h:PyProof.Rows.sortedS a=true):a=jI b:=
 List.Perm.eq_of_pairwise (fun _ _ _ _ h k=>rR h k) (Ck a h) (List.pairwise_mergeSort mh o7 b) (p.trans (BM b vC).symm)
theorem mi(ss:List Str):(jI ss).length=ss.length:=(BM ss vC).length_eq
section
variable {X:Cx} {e:Expr} {m1:Bool} {f:aY} {p pos:Pos}
theorem rT:∀{ss:List Str} {us:List Value},Vals (ss.map V.str) us→PyProof.Rows.StrsAre us ss
 |[],_,.nil=>.nil
 |s::ss,_,.cons h t=>by obtain⟨tk,rfl⟩:=h;exact .cons _ _ (rT t)
theorem rV:∀{ss:List Str} {us:List Value},PyProof.Rows.StrsAre us ss→Vals (ss.map V.str) us
 |[],_,.nil=>.nil
 |_::_,_,.cons y t h=>.cons ⟨t,rfl⟩ (rV h)
def kX:List PyData→Option (List Str)
 |[]=>some []
 |.str x::ds=>(kX ds).map (x:: ·)
 |_=>none
theorem qR{K:Frag}{H:Hp}:∀{vs:List V} {ds:List PyData} {bs:List Str},RpA K H vs ds→kX ds=some bs→vs=bs.map V.str
 |_,_,bs,.nil,e=>by cases e;rfl
 |_,_,bs,.cons (d:=d) h t,e=>by
  cases d <;> simp[kX]at e
  obtain⟨cs,e,rfl⟩:=e
  cases h
  rw[qR t e]
  rfl
theorem lD{K:Frag}{H:Hp}:∀ss:List Str,RpA K H (ss.map V.str) (ss.map PyData.str)
 |[]=>.nil
 |s::ss=>.cons (.str s) (lD ss)
def LZ(g:aY):aY:=fun E=>(g E).bind fun a=>match look a.2 a.1 with
 |some (.list ds)=>(kX ds).bind fun ss=>if ss.length < 64 then some (.ow ((jI ss).map .str),a.2)else none
 |_=>none
end
end PL
namespace PL
open PySem L2 Nh
def F8(ks:List Str)(x:Str):List Str:=if x∈ks then ks else ks++[x]
def jC(ss:List Str):List Str:=ss.foldl F8 []
def lj(x:Str):List Str:=x.cps.toList.map fun c=>⟨#[c]⟩
def b7(g:aY):aY:=fun E=>(g E).bind fun a=>match look a.2 a.1 with
 |some (.list ds)=>(kX ds).bind fun ss=>if ss.length < 4000∧(jC ss).length < 64 then some (.ow ((jI (jC ss)).map .str),a.2)else none
 |some (.str x)=>if (lj x).length < 4000∧(jC (lj x)).length < 64 then some (.ow ((jI (jC (lj x))).map .str),a.2)else none
 |_=>none
end PL
namespace NhSet
open PySem PyProof.Rows
structure SS (w:World) (b:Bool) (ks:List Str) (es:Array (Int×Value)) (t:SetTable):Prop where
 perm:(es.toList.map (fun e=>strOf e.2)).Perm ks
 elems:∀e∈es.toList,∃x tk,e=(hashStr w x,Value.str x tk)
 bound:es.size < scanBound
 fits:t.fits es.size=true
 led:t.led=b
 plain:es.size≠0→t.plain=false
abbrev dO(es:Array (Int×Value))(ep:Nat)(t:SetTable):Obj:={cls:=.type "set",dict:=none,data:=.set es ep t}
def StrSet(w:World)(h:Heap)(a:Addr)(b:Bool)(ks:List Str):Prop:=∃es ep t,h.get? a=some (dO es ep t)∧SS w b ks es t
theorem StrSet.at'{w:World}{b:Bool}(S:StrSet w h a b ks)(e:∀o,h.get? a=some o→h'.get? a=some o):StrSet w h' a b ks:=
 let ⟨es,ep,t,ho,r⟩:=S;⟨es,ep,t,e _ ho,r⟩
theorem StrSet.obj{w:World}{b:Bool}(S:StrSet w h a b ks):∃o,h.get? a=some o:=let ⟨_,_,_,ho,_⟩:=S;⟨_,ho⟩
theorem SS.elemsOf{prog:Program}{w:World}{b:Bool}{t:SetTable}(S:SS w b ks es t):ElemsOf (strKind prog w) es.toList:=fun e he=>by
 obtain⟨x,tk,rfl⟩:=S.elems e he
 exact⟨⟨x,by simp[PySem.strKind,Value.isStrOf],rfl⟩,rfl⟩
theorem SS.len{w:World}{b:Bool}{t:SetTable}(S:SS w b ks es t):es.size=ks.length:=by
 have:=S.perm.length_eq;simpa using this
theorem SS.mem{w:World}{b:Bool}{t:SetTable}(S:SS w b ks es t)(x:Str):x∈ks↔∃e∈es.toList,Value.isStrOf x e.2=true:=by
 rw[←S.perm.mem_iff,Zay]
 constructor
 ·rintro⟨e,he,rfl⟩
  obtain⟨y,tk,rfl⟩:=S.elems e he
  exact⟨_,he,by simp[Value.isStrOf,strOf]⟩
 ·rintro⟨e,he,hx⟩
  obtain⟨y,tk,rfl⟩:=S.elems e he
  have:y=x:=by simpa[Value.isStrOf]using hx
  exact⟨_,he,by simp[strOf,this]⟩
theorem SetTable.orStandIn_led(t:SetTable)(n:Nat):(t.orStandIn n).led=t.led:=by
 unfold SetTable.orStandIn;split <;> rfl
theorem zN(t:SetTable)(es:Array (Int×Value))(h:Int)(x:Value):(layNew t es h x).2.1.led=t.led:=by
 unfold layNew
 split
 ·exact SetTable.orStandIn_led _ _
 ·rfl
theorem zO{mask finger moves:Nat}{led plain:Bool}{hashes:Array Int}{t':SetTable}{order:Array Nat}(h:SetTable.laid mask finger moves led plain hashes=some (t',order)):t'.led=led∧t'.plain=plain:=by
 unfold SetTable.laid at h
 cases hc:SetTable.layClean mask hashes with
 |none=>rw[hc]at h;simp at h
 |some ow=>rw[hc]at h;simp at h;rw[←h.1];exact⟨rfl,rfl⟩
theorem rW(t:SetTable)(es:Array (Int×Value))(wanted:Nat)(hp:t.plain=false):(relayAll t es wanted).2.1.led=t.led∧(relayAll t es wanted).2.1.plain=false:=by
 unfold relayAll
 split
 ·rename_i t' order hr
  dsimp only
  split
  ·have:=zO hr
   exact⟨this.1,this.2.trans hp⟩
  ·exact⟨rfl,rfl⟩
 ·exact⟨rfl,rfl⟩
section
variable {prog:Program} {w:World} {A:Around} {E:Value→Shared→Prop} {s:Shared}
theorem tE(es es':Array (Int×Value))(ep:Nat)(t t':SetTable):Obj.putSet es' t' (dO es ep t)=dO es' (ep+1) t':=rfl
theorem wR{es':Array (Int×Value)}{t t':SetTable}(ho:h.get? a=some (dO es ep t)):(h.update a (Obj.putSet es' t')).get? a=some (dO es' (ep+1) t'):=
 Heap.get?_update_self (Obj.putSet es' t') ho (by rw[tE];rfl)
theorem AT{g:Bool→Sem Unit}(hg:∀(b:Bool) (s₁:Shared) (Q':Unit→Shared→Prop),Q' () s₁→wpAny (model prog w) A (g b) Q' E s₁)
     {t:SetTable} (ho:s.heap.get? a=some (dO es ep t))
  {es1:Array (Int×Value)} {t2:SetTable} {b:Bool}  (S:SS w b ks es1 t2) (hp:t2.plain=false) {wasDummy:Bool} {R:Option Bool→Shared→Prop}
  (h:∀h',Heap.SameBut a s.heap h'→StrSet w h' a b ks→R (some true) {s with heap:=h'}):
  wpAny (model prog w) A (do
    storeSet a es1 t2
    if (!wasDummy&&t2.tooFull)=true then do
      g (relayAll t2 es1 (SetTable.grown es1.size)).2.2
      storeSet a (relayAll t2 es1 (SetTable.grown es1.size)).1 (relayAll t2 es1 (SetTable.grown es1.size)).2.1
      pure (some true)
     else pure (some true)) R E s:=by
 refine zz0 (wpAny_storeSet_of ho rfl ?_ (fits_of_scanBound S.bound))
 have ho1:=wR (es':=es1) (t':=t2) ho
 have hsb1:=Heap.SameBut.update s.heap a (Obj.putSet es1 t2)
 split
 ·have hpm:=relayAll_perm t2 es1 (SetTable.grown es1.size)
  have hfr:=relayAll_fits t2 es1 (SetTable.grown es1.size)
  have hmk:=rW t2 es1 (SetTable.grown es1.size) hp
  generalize hRl:relayAll t2 es1 (SetTable.grown es1.size)=Rl at hpm hfr hmk ⊢
  obtain⟨es2,t3,gave2⟩:=Rl
  dsimp only at hpm hfr hmk ⊢
  have hsz:es2.size=es1.size:=by rw[←Zb,hpm.length_eq,Zb]
  have hb2:es2.size < scanBound:=by rw[hsz];exact S.bound
  have S2:SS w b ks es2 t3:=⟨(hpm.map _).trans S.perm,fun e he=>S.elems e (hpm.mem_iff.mp he),hb2,hfr,hmk.1.trans S.led,fun _=>hmk.2⟩
  refine zz0 (hg _ _ _ ?_)
  refine zz0 (wpAny_storeSet_of ho1 rfl ?_ (fits_of_scanBound hb2))
  exact zz1 (h _ (hsb1.trans (Heap.SameBut.update _ a _)) ⟨es2,_,t3,wR ho1,S2⟩)
 ·exact zz1 (h _ hsb1 ⟨es1,_,t2,ho1,S⟩)
def qF(ks:List Str)(x:Str):List Str:=if x∈ks then ks else ks++[x]
theorem o8{b:Bool}{Q:Bool→Shared→Prop}(hS:StrSet w s.heap a b ks)(hroom:ks.length+1 < scanBound)
  (h:∀(r:Bool) h',Heap.SameBut a s.heap h'→StrSet w h' a b (qF ks x)→Q r {s with heap:=h'}):
  wpAny (model prog w) A (setAddHashed a (.str x tk) (hashStr w x)) Q E s:=by
 obtain⟨es,ep,t,ho,S⟩:=hS
 have hb1:es.size+1 < scanBound:=by rw[S.len];exact hroom
 have hel:=S.elemsOf (prog:=prog)
 have hkey:(strKind prog w).is x (.str x tk)=true:=by simp[PySem.strKind,Value.isStrOf]
 unfold setAddHashed setAddHashedIn
 refine zz7 (zz0 (wpAny_setState_of ho rfl S.fits ?_))
 dsimp only
 rw[byScan_of (knd:=strKind prog w) (x:=.str x tk) rfl S.bound hel]
 simp only[↓reduceIte]
 unfold setAddByScan
 refine zz0 ?_
 refine zz0 (wpAny_rule ?_)
 refine zz0 (wpAny_setScan_of (knd:=strKind prog w) hkey ho rfl S.fits hel ?_)
 cases hr:List.findIdx? (fun e=>(strKind prog w).is x e.2) es.toList with
 |some j=>
  dsimp only
  obtain⟨hj,hpj,_⟩:=List.findIdx?_eq_some_iff_getElem.mp hr
  have hk:x∈ks:=(S.mem x).mpr ⟨es.toList[j],List.getElem_mem hj,hpj⟩
  refine zz1 (zz1 ?_)
  have e:s={s with heap:=s.heap}:=by cases s;rfl
  rw[e]
  exact h _ s.heap (Heap.SameBut.refl a s.heap) (by rw[qF,if_pos hk];exact⟨es,ep,t,ho,S⟩)
 |none=>
  dsimp only
  have hk:x∉ks:=fun hk=>by
   obtain⟨e,he,hp⟩:=(S.mem x).mp hk
   have:=List.findIdx?_eq_none_iff.mp hr e he
   rw[show(strKind prog w).is x e.2=true from hp]at this;exact Bool.noConfusion this
  have hgw:∀(b:Bool) {s₁:Shared} {Q':Unit→Shared→Prop},Q' () s₁→wpAny (model prog w) A (match b with |true=>rule "set.scan.the-table-gave-way" |false=>pure ()) Q' E s₁:=
   fun b s₁ Q' hq=>by cases b <;> first |exact zz1 hq |exact wpAny_rule hq
  have hperm:=layNew_perm t es (hashStr w x) (.str x tk)
  have hfits:=layNew_fits t es (hashStr w x) (.str x tk)
  have hled:=zN t es (hashStr w x) (.str x tk)
  generalize hL:layNew t es (hashStr w x) (.str x tk)=L at hperm hfits hled ⊢
  obtain⟨es1,t1,wasDummy,gave⟩:=L
  dsimp only at hperm hfits hled ⊢
  rw[Array.toList_push]at hperm
  have hb1':es1.size < scanBound:=by rw[←Zb,hperm.length_eq,iK,Zb];simpa using hb1
  have hpm:(es1.toList.map (fun e=>strOf e.2)).Perm (ks++[x]):=(hperm.map _).trans (by rw[tw];exact S.perm.append_right _)
  have hel1:∀e∈es1.toList,∃x tk,e=(hashStr w x,Value.str x tk):=fun e he=>by
   rcases Zai.mp (hperm.mem_iff.mp he)with z |z
   ·exact S.elems e z
   ·exact⟨x,tk,Zaf.mp z⟩
  refine zz0 (hgw _ ?_)
  split
  ·refine zz0 ?_
   rw[hashByValue_scannable 8 (x:=.str x tk) rfl]
   refine zz1 ?_
   simp only[plainKind,Bool.false_eq_true,↓reduceIte]
   refine AT ?_ ho (t2:={t1 with plain:=false}) (ks:=qF ks x) (b:=b) ⟨by rw[qF,if_neg hk];exact hpm,hel1,hb1',SetTable.fits_plain_off hfits,hled.trans S.led,fun _=>rfl⟩ rfl ?_
   ·intro b s₁ Q' hq;cases b <;> first |exact zz1 hq |exact wpAny_rule hq
   ·intro h' hsb hS';dsimp only;exact zz1 (h _ h' hsb hS')
  ·rename_i hpl
   refine zz0 (zz1 ?_)
   simp only[↓reduceIte]
   have hpl':t1.plain=false:=by simpa using hpl
   refine AT ?_ ho (ks:=qF ks x) (b:=b) ⟨by rw[qF,if_neg hk];exact hpm,hel1,hb1',hfits,hled.trans S.led,fun _=>hpl'⟩ hpl' ?_
   ·intro b s₁ Q' hq;cases b <;> first |exact zz1 hq |exact wpAny_rule hq
   ·intro h' hsb hS';dsimp only;exact zz1 (h _ h' hsb hS')
end
def m_(val:Nat→Str)(i:Nat):List Str:=((List.range i).map val).foldl qF []
theorem ue(val:Nat→Str)(i:Nat):m_ val (i+1)=qF (m_ val i) (val i):=by
 unfold m_;rw[List.range_succ,tw,List.foldl_append];rfl
theorem Ep(ks:List Str)(x:Str):(qF ks x).length≤ks.length+1:=by
 unfold qF;split
 ·omega
 ·simp
theorem wS(val:Nat→Str):∀i,(m_ val i).length≤i
 | 0=>gR _
 |i+1=>by rw[ue];have:=wS val i;have:=Ep (m_ val i) (val i);omega
section
variable {prog:Program} {w:World} {A:Around} {R:Result→Shared→Prop} {I:Addr} {fp wr:List Addr} {G:Array GenState→Array GenState→Prop} {n:Nat} {P:Nat→Value→Prop} {St:Nat→Shared→Prop}
theorem qd(W:WalksS prog w A.in1 I fp wr G n P St)(S:Addr)(hSf:S∉fp)(b:Bool)
  (val:Nat→Str) (hval:∀i v,P i v→∃t,v=.str (val i) t) (hb:n+1 < scanBound):
  ∀(k i:Nat) (s:Shared),n - i=k→i≤n→St i s→StrSet w s.heap S b (m_ val i)→
   (∀s',Moved (S::wr) G s s'→StrSet w s'.heap S b (m_ val n)→R (.ok (.ret .none)) s')→
   codeAny (model prog w) A (.builtin "set.update.loop" ⟨[.ref S,.ref I],[]⟩) R s:=by
 have hSw:S∉wr:=fun h=>hSf (W.sub _ h)
 have hsub:∀b∈wr,b∈S::wr:=fun b hb=>gN _ hb
 intro k
 induction k with
 |zero=>
  intro i s hk hi hst hS hR
  have hin:i=n:=by omega
  subst hin
  refine codeAny_builtin PyProof.Rows.F.entry_set_update_loop ?_
  rw[Around.under_plainId PyProof.Rows.F.plain_set_update_loop _]
  show wpAny _ A.in1 (pyNext (.ref I) >>= _) _ _ s
  refine zz0 (W.done s _ _ hst fun s' hm=>?_)
  show wpAny _ A.in1 (ret Value.none) _ _ s'
  exact zz1 (hR s' (hm.mono hsub) (hS.at' fun o e=>hm.heap S o hSw e))
 |succ k ih=>
  intro i s hk hi hst hS hR
  have hlt:i < n:=by omega
  refine codeAny_builtin PyProof.Rows.F.entry_set_update_loop ?_
  rw[Around.under_plainId PyProof.Rows.F.plain_set_update_loop _]
  show wpAny _ A.in1 (pyNext (.ref I) >>= _) _ _ s
  refine zz0 (W.item i s _ _ hlt hst fun v s' hP hst' hm=>?_)
  obtain⟨t,rfl⟩:=hval i v hP
  have hS':StrSet w s'.heap S b (m_ val i):=hS.at' fun o e=>hm.heap S o hSw e
  show wpAny _ A.in1 (holding [Value.str (val i) t] (setAdd S (.str (val i) t)) >>= _) _ _ s'
  refine zz0 (zz7 ?_)
  unfold setAdd
  refine zz7 ?_
  refine zz0 (wpAny_pyHash_str ?_)
  have hroom:(m_ val i).length+1 < scanBound:=by have:=wS val i;omega
  refine o8 (s:={s' with toks:=s'.toks+1}) hS' hroom fun r h' hsb hS2=>?_
  refine zz1 ⟨plainId_quiet PyProof.Rows.F.plain_set_update_loop _,ih (i+1) _ (by omega) hlt (W.frame _ s' _ _ hst' (Nat.le_succ _) fun b hb o e=>?_) (by rw[ue];exact hS2) fun s'' hm'' hS''=>?_⟩
  ·rw[hsb.2 b (fun h:b=S=>hSf (by rw[←h];exact hb))];exact e
  ·refine hR s'' (Moved.trans W.gtrans ((hm.mono hsub).then_heap (Nat.le_succ _) fun b o hb e=>?_) hm'') hS''
   rw[hsb.2 b (fun h:b=S=>hb (by rw[h];exact g_))];exact e
end
theorem ou(w:World)(led:Bool):SS w led [] #[] (.fresh 0 0 led):=⟨by simp,fun e he=>by simp at he,by decide,by rfl,rfl,fun h=>absurd rfl h⟩
def mH(w:World):Bool:= !w.params.followText "set-order"
section
variable {prog:Program} {w:World} {A:Around} {E:Value→Shared→Prop} {s:Shared}
theorem wT(a:Value){Q₁:Value→Shared→Prop}
  (h:Q₁ (.ref s.heap.objs.size) {s with heap:=s.heap.push (dO #[] 0 (.fresh 0 0 (mH w)))}):
  codeAny (model prog w) A (.call (.builtin "set.__new__") ⟨[.type "set",a],[]⟩) (wants Q₁ E) s:=by
 refine codeAny_of_tree ?_
 show wpAny _ A.in1 (do checkBuiltinCall "set.__new__" ⟨[.type "set",a],[]⟩;again (.builtin "set.__new__" ⟨[.type "set",a],[]⟩)) _ _ s
 refine zz0 (wpAny_of_eq (PySem.F.newCall_set_1 a) (zz1 ⟨plainId_quiet PySem.F.plain_set_new _,codeAny_builtin PySem.F.entry_set_new ?_⟩))
 rw[Around.under_plainId PySem.F.plain_set_new _]
 unfold Builtin.«set.__new__» Builtin.Frozenset.newClass
 have hsub:=sub_set_self
 obtain⟨hp,g,d,tk,os⟩:=s
 dsimp only
 wp_walk
 refine wpAny_askSetting (zz1 ?_)
 dsimp only
 simp only[newObj]
 refine zz0 (wpAny_alloc (zz1 ?_))
 exact zz1 h
end
end NhSet
namespace NhSet
open PySem PyProof.Rows
namespace F
theorem wU:isSubtype (.type "str") (.type "set")=pure false:=by rw[isSubtype_type];kernel_rfl
theorem ov:isSubtype (.type "str") (.type "frozenset")=pure false:=by rw[isSubtype_type];kernel_rfl
end F
section
variable {prog:Program} {w:World} {A:Around} {E:Value→Shared→Prop} {s:Shared}
theorem AU:∀{vs:List Value} {ns:List Str},StrsAre vs ns→∀(i:Nat) (v:Value),vs[i]? =some v→∃t,v=.str (ns.getD i ⟨#[]⟩) t
 |_,_,.nil,i,v,h=>by simp at h
 |_,_,.cons n t hr,0,v,h=>by simp at h;exact⟨t,by rw[←h];rfl⟩
 |_,_,.cons n t hr,i+1,v,h=>by
  simp only[Z3]at h
  obtain⟨t',e⟩:=AU hr i v h
  exact⟨t',by rw[e];rfl⟩
set_option maxHeartbeats 4000000 in
theorem Cl{l:Addr}{items:Array Value}{ns:List Str}
  (hh:A.handled=none) (hl:s.heap.IsList l items) (hi:StrsAre items.toList ns) (hb:items.size+1 < scanBound)
  (h:∀(h':Heap) (tk:Nat),StrSet w h' s.heap.objs.size (mH w) (m_ (fun i=>ns.getD i ⟨#[]⟩) items.size)→
   (∀b o,b < s.heap.objs.size→s.heap.get? b=some o→h'.get? b=some o)→Q (.ref s.heap.objs.size) {s with heap:=h',toks:=tk}):
  wpAny (model prog w) A (call (.type "set") [.ref l]) Q E s:=by
 obtain⟨c,tl,hmro⟩:=PySem.F.called_set.mro
 have hmade:=PySem.F.called_set.made
 have hsub:=PySem.F.called_set.sub
 refine wpAny_call (codeAny_of_tree ?_)
 show wpAny _ _ (callAny (.type "set") _) _ _ _
 refine zz1 ⟨Code.quiet_builtin _ (by decide+kernel),codeAny_builtin PySem.F.entry_type_call ?_⟩
 rw[Around.under_plain (weight_type_call_type "set" [.ref l] []) rfl]
 have h1:=PySem.F.called_set.notType
 have h2:=PySem.F.called_set.canCreate
 have hct:=PySem.F.typeCall_set_1 (.ref l)
 repeat (any_goals (first |assumption |wp_step))
 generalize hled:mH w=led at h
 refine codeAny_mono (wT (w:=w) (.ref l) (E:=E) (Q₁:=fun obj s₁=>obj=.ref s.heap.objs.size∧s₁={s with heap:=s.heap.push {cls:=.type "set",dict:=none,data:=.set #[] 0 (.fresh 0 0 led)}}) (by rw[hled];exact⟨rfl,rfl⟩)) fun r s₁ hr=>?_
 cases r with
 |error e=>exact hr
 |ok fl=>
  cases fl with
  |ret obj=>
   obtain⟨rfl,rfl⟩:=hr
   have hS:(s.heap.push {cls:=.type "set",dict:=none,data:=.set #[] 0 (.fresh 0 0 led)}).get? s.heap.objs.size=some {cls:=.type "set",dict:=none,data:=.set #[] 0 (.fresh 0 0 led)}:=nY _ rfl
   have hT:Shared.TypeIs {s with heap:=s.heap.push {cls:=.type "set",dict:=none,data:=.set #[] 0 (.fresh 0 0 led)}} (.ref s.heap.objs.size) "set":=⟨_,hS,rfl⟩
   have hli:=PySem.F.called_set.init.lookup
   have hbi:=PySem.F.called_set.init.bind (.ref s.heap.objs.size)
   repeat (any_goals (first |assumption |wp_step))
   refine codeAny_mono (codeAny_call_builtin (R:=wants (fun r s₂=>r=.none∧∃h' tk,s₂={s with heap:=h',toks:=tk}∧
     StrSet w h' s.heap.objs.size led (m_ (fun i=>ns.getD i ⟨#[]⟩) items.size)∧
     (∀b o,b < s.heap.objs.size→s.heap.get? b=some o→h'.get? b=some o)) E) PySem.F.called_set.init.plain PySem.F.entry_set_init (check_set_init_1 hT ?_)) fun r₂ s₂ hr₂=>?_
   ·obtain⟨ol,hol,hcl,nl,hdl⟩:=hl
    obtain⟨ocls,odict,odata,oslots⟩:=ol
    simp only at hcl hdl
    subst hcl;subst hdl
    have hol':(s.heap.push {cls:=.type "set",dict:=none,data:=.set #[] 0 (.fresh 0 0 led)}).get? l=some {cls:=.type "list",dict:=odict,data:=.seq items nl,slots:=oslots}:=iB _ hol
    have hsls:=PySem.F.sub_list_set
    have hslf:=PySem.F.sub_list_frozenset
    have hne:(Value.type "list" == Value.type "dict")=false:=by decide
    have hl1:(s.heap.push {cls:=.type "set",dict:=none,data:=.set #[] 0 (.fresh 0 0 led)}).IsList l items:=⟨_,hol',rfl,nl,rfl⟩
    unfold Builtin.«set.__init__» noKeywords Builtin.Frozenset.updateFrom
    generalize hPI:pyIter=PI
    wp_walk
    subst hPI
    refine wpAny_pyIter_list hl1 ?_
    refine zz0 (wpAny_runValue ?_)
    have hlS:l < s.heap.objs.size:=iC hol
    have hh3:A.in1.in1.in1.handled=none:=by simp[hh]
    have hneI:l≠(s.heap.push {cls:=.type "set",dict:=none,data:=.set #[] 0 (.fresh 0 0 led)}).objs.size:=by
     rw[zzB];exact jE (yP hlS)
    have hSf:s.heap.objs.size∉[(s.heap.push {cls:=.type "set",dict:=none,data:=.set #[] 0 (.fresh 0 0 led)}).objs.size,l]:=by
     rw[zzB];simp only[Zap,Zaf,List.not_mem_nil,or_false,not_or]
     exact⟨jE (zzA _),Nat.ne_of_gt hlS⟩
    have hval:∀(i:Nat) (v:Value),items[i]? =some v→∃t,v=.str ((fun i=>ns.getD i ⟨#[]⟩) i) t:=fun i v hv=>
     AU hi i v (by rw[Array.getElem?_toList];exact hv)
    refine qd ((Walks.list hh3 _ l hneI items).toS) s.heap.objs.size
     hSf led (fun i=>ns.getD i ⟨#[]⟩) hval hb (items.size - 0) 0 _ (by omega) (pT _)
     ⟨⟨_,nY _ rfl,rfl,rfl⟩,(hl1.push _)⟩ ?hS0 ?hR
    case hS0=>
     have hget:((s.heap.push {cls:=.type "set",dict:=none,data:=.set #[] 0 (.fresh 0 0 led)}).push {cls:=.type "list_iterator",data:=.fields #[.ref l,.int 0 0]}).get? s.heap.objs.size
       =some {cls:=.type "set",dict:=none,data:=.set #[] 0 (.fresh 0 0 led)}:=iB _ hS
     exact⟨_,_,_,hget,ou w led⟩
    case hR=>
     intro s' hm hS'
     obtain⟨h',g',d',tk',os'⟩:=s'
     have eg:g'=s.gens:=hm.gens
     have ed:d'=s.drawn:=hm.drawn
     have eo:os'=s.os:=hm.os
     subst eg;subst ed;subst eo
     show wpAny _ _ _ _ _ _
     refine zz1 ?_
     show wpAny _ _ (ret Value.none) _ _ _
     refine zz1 ⟨rfl,h',tk',rfl,hS',fun b o hb e=>?_⟩
     have hb1:b≠s.heap.objs.size:=jE hb
     have hb2:b≠(s.heap.push {cls:=.type "set",dict:=none,data:=.set #[] 0 (.fresh 0 0 led)}).objs.size:=by
      rw[zzB];exact jE (yP hb)
     exact hm.heap b o (by simp only[Zap,Zaf,List.not_mem_nil,or_false,not_or];exact⟨hb1,hb2⟩) (iB _ (iB _ e))
   ·cases r₂ with
    |error e=>exact hr₂
    |ok fl₂=>
     cases fl₂ with
     |ret r=>
      obtain⟨rfl,h',tk,rfl,hS',hk'⟩:=hr₂
      repeat (any_goals (first |assumption |wp_step))
      exact h _ _ hS' hk'
     |_=>exact hr₂.elim
  |_=>exact hr.elim
def kq(x:Str)(i:Nat):Str:=⟨#[x.cps.getD i 0]⟩
set_option maxHeartbeats 4000000 in
theorem Er{t:Tok}
  (hh:A.handled=none) (hb:x.cps.size+1 < scanBound)
  (h:∀(h':Heap) (tk:Nat),StrSet w h' s.heap.objs.size (mH w) (m_ (kq x) x.cps.size)→
   (∀b o,b < s.heap.objs.size→s.heap.get? b=some o→h'.get? b=some o)→Q (.ref s.heap.objs.size) {s with heap:=h',toks:=tk}):
  wpAny (model prog w) A (call (.type "set") [.str x t]) Q E s:=by
 obtain⟨c,tl,hmro⟩:=PySem.F.called_set.mro
 have hmade:=PySem.F.called_set.made
 have hsub:=PySem.F.called_set.sub
 refine wpAny_call (codeAny_of_tree ?_)
 show wpAny _ _ (callAny (.type "set") _) _ _ _
 refine zz1 ⟨Code.quiet_builtin _ (by decide+kernel),codeAny_builtin PySem.F.entry_type_call ?_⟩
 rw[Around.under_plain (weight_type_call_type "set" [.str x t] []) rfl]
 have h1:=PySem.F.called_set.notType
 have h2:=PySem.F.called_set.canCreate
 have hct:=PySem.F.typeCall_set_1 (.str x t)
 repeat (any_goals (first |assumption |wp_step))
 generalize hled:mH w=led at h
 refine codeAny_mono (wT (w:=w) (.str x t) (E:=E) (Q₁:=fun obj s₁=>obj=.ref s.heap.objs.size∧s₁={s with heap:=s.heap.push {cls:=.type "set",dict:=none,data:=.set #[] 0 (.fresh 0 0 led)}}) (by rw[hled];exact⟨rfl,rfl⟩)) fun r s₁ hr=>?_
 cases r with
 |error e=>exact hr
 |ok fl=>
  cases fl with
  |ret obj=>
   obtain⟨rfl,rfl⟩:=hr
   have hS:(s.heap.push {cls:=.type "set",dict:=none,data:=.set #[] 0 (.fresh 0 0 led)}).get? s.heap.objs.size=some {cls:=.type "set",dict:=none,data:=.set #[] 0 (.fresh 0 0 led)}:=nY _ rfl
   have hT:Shared.TypeIs {s with heap:=s.heap.push {cls:=.type "set",dict:=none,data:=.set #[] 0 (.fresh 0 0 led)}} (.ref s.heap.objs.size) "set":=⟨_,hS,rfl⟩
   have hli:=PySem.F.called_set.init.lookup
   have hbi:=PySem.F.called_set.init.bind (.ref s.heap.objs.size)
   repeat (any_goals (first |assumption |wp_step))
   refine codeAny_mono (codeAny_call_builtin (R:=wants (fun r s₂=>r=.none∧∃h' tk,s₂={s with heap:=h',toks:=tk}∧
     StrSet w h' s.heap.objs.size led (m_ (kq x) x.cps.size)∧
     (∀b o,b < s.heap.objs.size→s.heap.get? b=some o→h'.get? b=some o)) E) PySem.F.called_set.init.plain PySem.F.entry_set_init (check_set_init_1 hT ?_)) fun r₂ s₂ hr₂=>?_
   ·have hsls:=F.wU
    have hslf:=F.ov
    have hne:(Value.type "str" == Value.type "dict")=false:=by decide
    have hTx:Shared.TypeIs {s with heap:=s.heap.push {cls:=.type "set",dict:=none,data:=.set #[] 0 (.fresh 0 0 led)}} (.str x t) "str":=rfl
    unfold Builtin.«set.__init__» noKeywords Builtin.Frozenset.updateFrom
    generalize hPI:pyIter=PI
    wp_walk
    subst hPI
    refine wpAny_pyIter_str fun o St W hst=>?_
    refine zz0 (wpAny_runValue ?_)
    have hh3:A.in1.in1.in1.handled=none:=by simp[hh]
    have hSf:s.heap.objs.size∉[(s.heap.push {cls:=.type "set",dict:=none,data:=.set #[] 0 (.fresh 0 0 led)}).objs.size]:=by
     rw[zzB];simp only[Zap,Zaf,List.not_mem_nil,or_false,not_or]
     exact jE (zzA _)
    have hval:∀(i:Nat) (v:Value),SignAt x i v→∃t,v=.str (kq x i) t:=fun i v ⟨c,u,hc,hv⟩=>⟨u,by rw[hv];simp[kq,Array.getD_eq_getD_getElem?,hc]⟩
    refine qd ((W _ hh3).toS) s.heap.objs.size
     hSf led (kq x) hval hb (x.cps.size - 0) 0 _ (by omega) (pT _) hst ?hS0 ?hR
    case hS0=>exact⟨_,_,_,iB _ hS,ou w led⟩
    case hR=>
     intro s' hm hS'
     obtain⟨h',g',d',tk',os'⟩:=s'
     have eg:g'=s.gens:=hm.gens
     have ed:d'=s.drawn:=hm.drawn
     have eo:os'=s.os:=hm.os
     subst eg;subst ed;subst eo
     show wpAny _ _ _ _ _ _
     refine zz1 ?_
     show wpAny _ _ (ret Value.none) _ _ _
     refine zz1 ⟨rfl,h',tk',rfl,hS',fun b o hb e=>?_⟩
     have hb1:b≠s.heap.objs.size:=jE hb
     have hb2:b≠(s.heap.push {cls:=.type "set",dict:=none,data:=.set #[] 0 (.fresh 0 0 led)}).objs.size:=by
      rw[zzB];exact jE (yP hb)
     exact hm.heap b o (by simp only[Zap,Zaf,List.not_mem_nil,or_false,not_or];exact⟨hb1,hb2⟩) (iB _ (iB _ e))
   ·cases r₂ with
    |error e=>exact hr₂
    |ok fl₂=>
     cases fl₂ with
     |ret r=>
      obtain⟨rfl,h',tk,rfl,hS',hk'⟩:=hr₂
      repeat (any_goals (first |assumption |wp_step))
      exact h _ _ hS' hk'
     |_=>exact hr₂.elim
  |_=>exact hr.elim
end
end NhSet
namespace NhSet
open PySem PyProof.Rows
theorem nh:∀{l:List α} {i:Nat} (h:i < l.length),(l[i]::l.eraseIdx i).Perm l
 |x::xs,0,h=>List.Perm.refl _
 |x::xs,i+1,h=>by
  have:=nh (l:=xs) (i:=i) (by simpa using h)
  simp only[List.getElem_cons_succ,List.eraseIdx_cons_succ]
  exact(List.Perm.swap x _ _).trans (this.cons x)
theorem uf(next:Nat→Nat):∀(fuel k:Nat) (left:List α) (out:Array α),left.length=fuel→(pickOrder.go next fuel k left out).toList.Perm (out.toList++left)
 | 0,k,left,out,h=>by
  have:left=[]:=List.length_eq_zero_iff.mp h
  subst this;simp[pickOrder.go]
 |fuel+1,k,left,out,h=>by
  unfold pickOrder.go
  have hlt:next k % left.length < left.length:=Nat.mod_lt _ (by omega)
  rw[yN hlt]
  dsimp only
  refine(uf next fuel (k+1) _ _ (by rw[List.length_eraseIdx_of_lt hlt];omega)).trans ?_
  rw[Array.toList_push,n8]
  exact(nh hlt).append_left _
theorem rX(next:Nat→Nat)(xs:Array α):(pickOrder next xs).toList.Perm xs.toList:=by
 have:=uf next xs.size 0 xs.toList #[] (by simp)
 simpa[pickOrder]using this
section
variable {M:Model} {A:Around} {E:Value→Shared→Prop}
theorem vD{src:Source}{n:Nat}{s:Shared}{Q:Nat→Shared→Prop}(hn:n≠0)(h:∀i d,i < n→Q i {s with drawn:=d}):wpAny M A (choose src n) Q E s:=fun Γ p hΓ=>by
 show Sem.wp M Γ (.choose src n .pure) _ _ p s
 rw[Sem.wp_choose]
 exact⟨hn,by rw[Sem.wp_pure];exact h _ _ (Nat.mod_lt _ (Nat.pos_of_ne_zero hn))⟩
theorem kY:∀(n:Nat) (xs:List α) (s:Shared) {Q:List α→Shared→Prop},xs.length=n→(∀ys d,ys.Perm xs→Q ys {s with drawn:=d})→wpAny M A (drawOrder n xs) Q E s
 | 0,xs,s,Q,hl,h=>by
  have:xs=[]:=List.length_eq_zero_iff.mp hl
  subst this
  exact zz1 (h [] s.drawn (List.Perm.refl _))
 |n+1,[],s,Q,hl,h=>by simp at hl
 |n+1,x::xs,s,Q,hl,h=>by
  show wpAny M A (choose .order (x::xs).length >>= _) Q E s
  refine zz0 (vD (by simp) fun i d hi=>?_)
  rw[yN hi]
  dsimp only
  refine zz0 (kY n _ _ (by rw[List.length_eraseIdx_of_lt hi];simpa using hl) fun ys d' hp=>?_)
  exact zz1 (h _ d' ((hp.cons _).trans (nh hi)))
end
namespace F
theorem rY:entryFor table "set.__iter__"=some Builtin.«frozenset.__iter__»:=
 entryFor_alias (id':="frozenset.__iter__") (by kernel_rfl) rfl (by decide+kernel) (by kernel_rfl)
theorem slot_next:Slot "set_iterator" "__next__" "set_iterator.__next__":=
 .of (owner:="set_iterator") (n:="__next__") (by rw[typeLookup_type,builtinLookup_eq_fast];kernel_rfl) (by decide+kernel) (by decide+kernel) (by decide+kernel)
  (by first |exact .inl (by decide+kernel) |exact .inr (by decide+kernel)) (by rw[isSubtype_type];kernel_rfl)
theorem zP:entryFor table "set_iterator.__next__"=some Builtin.«set_iterator.__next__»:=entryFor_of_fast (by kernel_rfl)
theorem Cn(a:Value):argsOk "set_iterator.__next__" ⟨[a],[]⟩:=by unfold argsOk;kernel_rfl
theorem ug:Slot "set_iterator" "__iter__" "set_iterator.__iter__":=
 .of (owner:="set_iterator") (n:="__iter__") (by rw[typeLookup_type,builtinLookup_eq_fast];kernel_rfl) (by decide+kernel) (by decide+kernel) (by decide+kernel)
  (by first |exact .inl (by decide+kernel) |exact .inr (by decide+kernel)) (by rw[isSubtype_type];kernel_rfl)
theorem zQ:entryFor table "set_iterator.__iter__"=some Builtin.«dict_keyiterator.__iter__»:=
 entryFor_alias (id':="dict_keyiterator.__iter__") (by kernel_rfl) rfl (by decide+kernel) (by kernel_rfl)
theorem Co(a:Value):argsOk "set_iterator.__iter__" ⟨[a],[]⟩:=by unfold argsOk;kernel_rfl
end F
abbrev wV(first:Value)(i:Nat)(a:Addr)(n ep:Nat):Obj:={cls:=.type "set_iterator",data:=.fields #[first,.int i 0,.ref a,.int n 0,.int ep 0]}
section
variable {prog:Program} {w:World} {A:Around} {E:Value→Shared→Prop} {s:Shared}
theorem vE{first:Value}{i:Nat}{n:Nat}(ho:s.heap.get? I=some (wV first i a n ep))(h:Q (.ref I) s):wpAny (model prog w) A (pyIter (.ref I)) Q E s:=by
 have hT:s.TypeIs (.ref I) "set_iterator":=⟨_,ho,rfl⟩
 refine wpAny_pyIter_slot hT F.ug (wpAny_call_entry F.ug hT F.zQ ?_ (F.Co _))
 show wpAny _ _ (ret (.ref I)) _ _ s
 exact zz1 ⟨_,rfl,"set_iterator",_,hT,F.slot_next.lookup,h⟩
theorem wW{t:SetTable}{Q:Bool→Shared→Prop}(ho:s.heap.get? a=some (dO es ep t))(hf:t.fits es.size=true)
  (h:Q (!(w.params.followText "set-order")&&(!t.plain&&decide (es.size > 1))) s):wpAny (model prog w) A (setDrawn a) Q E s:=by
 unfold setDrawn setsByText
 refine zz0 (wpAny_setState_of ho rfl hf ?_)
 dsimp only
 refine zz0 (zz0 (wpAny_askSetting (zz1 ?_)))
 exact zz1 h
theorem vF{Q:Option Value→Shared→Prop}(hh:A.handled=none){o:Obj}(hQ:∀h',Heap.ExtBut I s.heap h'→Q none {s with heap:=h'}){h1:Heap}(k:Heap.ExtBut I s.heap h1):
  wpAny (model prog w) A.in1 (newExc (.type "StopIteration") [] >>= fun e=>raiseNew e) (fun(fin:Fin) s'=>∃r,fin=.done (.ret r)∧wpAny (model prog w) A (pure (some r)) Q E s')
   (fun e s'=>wpAny (model prog w) A (isInstance e (.type "StopIteration") >>= fun b=>if b=true then pure none else throw e) Q E s') {s with heap:=h1}:=by
 refine zz0 ?_
 simp only[newExc,newTuple]
 refine zz0 (wpAny_newObj_type ?_ (by size_fits))
 refine zz0 (m:=firstArgMember _ _) (wpAny_of_eq (a:=Value.none) (by first |rfl |(simp only[firstArgMember];rfl)) ?_)
 refine wpAny_newObj_type ?_ (by size_fits)
 simp only[raiseNew]
 refine zz0 (wpAny_handled ?_)
 rw[show A.in1.handled=none from hh]
 refine zz0 (zz1 (wpAny_throw ?_))
 refine zz0 (wpAny_isInstance (T:="StopIteration") (b:=true) ⟨_,nY _ rfl,rfl⟩ isSubtype_stop ?_)
 exact zz1 (hQ _ ((k.push _).push _))
end
end NhSet
namespace NhSet
open PySem PyProof.Rows
section
variable {prog:Program} {w:World} {A:Around} {E:Value→Shared→Prop} {s:Shared}
theorem gX{first:Value}{i:Nat}{n:Nat}{Q:Option Value→Shared→Prop}(hI:s.heap.get? I=some (wV first i a n ep)){t:SetTable}(ha:s.heap.get? a=some (dO es ep t))(hf:t.fits es.size=true)(hn:es.size=n)
  (h:wpAny (model prog w) A.in1 (if let .int slot _:=first then do
    match ←setNext a slot.toNat i ep with
    |some (x,next)=>do
     setField (.ref I) 0 (rawInt next)
     setField (.ref I) 1 (rawInt (i+1))
     ret x
    |none=>do setField (.ref I) 2 .none;raiseNew (←newExc (.type "StopIteration") [])
   else do
    let some places ←seqItems? first |unsupported "internal:set_iterator"
    match places[i]? with
    |some (.int place _)=>do
     let x ←setNextDrawn a place.toNat ep
     setField (.ref I) 1 (rawInt (i+1))
     ret x
    |some _=>unsupported "internal:set_iterator"
    |none=>do setField (.ref I) 0 (rawInt 0);setField (.ref I) 2 .none;raiseNew (←newExc (.type "StopIteration") []))
   (fun(fin:Fin) s'=>∃r,fin=.done (.ret r)∧wpAny (model prog w) A (pure (some r)) Q E s')
   (fun e s'=>wpAny (model prog w) A (isInstance e (.type "StopIteration") >>= fun b=>if b=true then pure none else throw e) Q E s') s):
  wpAny (model prog w) A (pyNext (.ref I)) Q E s:=by
 have hT':s.TypeIs (.ref I) "set_iterator":=⟨_,hI,rfl⟩
 unfold pyNext
 refine zz0 (wpAny_attempt (wpAny_callSpecial?_slot (name:=Str.ofString "__next__") hT' F.slot_next (wpAny_call_entry F.slot_next hT' F.zP ?_ (F.Cn _))))
 unfold Builtin.«set_iterator.__next__»
 refine zz0 (m:=slotArgs _ _ _) (zz1 ?_)
 refine zz0 (wpAny_fieldsOf hI rfl ?_)
 dsimp only
 refine zz0 (wpAny_setEntries_of ha rfl hf ?_)
 rw[if_neg (by simp[hn])]
 exact h
abbrev Id(es:Array (Int×Value))(j:Nat):Value:=(es.getD j (0,.none)).2
theorem dD{o:Obj}{vs:Array Value}{x:Value}{Q:Unit→Shared→Prop}(ho:s.heap.get? I=some o)(hd:o.data=.fields vs)(hk:k < vs.size)(hQ:∀h',Heap.SameBut I s.heap h'→h'.get? I=some {o with data:=.fields (vs.setIfInBounds k x)}→Q () {s with heap:=h'}):wpAny (model prog w) A (setField (.ref I) k x) Q E s:=by
 refine wpAny_setField ho hd hk (hQ _ (Heap.SameBut.update ..) ?_)
 have:=Heap.get?_update_self (Obj.mapFields fun vs=>vs.setIfInBounds k x) ho (Obj.isFreed_of_fields (Obj.data_mapFields hd _))
 rw[this]
 obtain⟨c,d,dt,sl⟩:=o
 simp only at hd
 subst hd
 rfl
theorem zR(hh:A.handled=none){T:Addr}{t:SetTable}(π:List Nat)(hp:∀j∈π,j < es.size)(hl:π.length=es.size)(hf:t.fits es.size=true)(hTI:T≠I)(haI:a≠I):
  Walks prog w A I [I,T,a] [I] (π.map (Id es)).length (fun i v=>(π.map (Id es))[i]? =some v)
   (fun i h=>h.get? I=some (wV (.ref T) i a es.size ep)∧h.get? T=some {cls:=.type "tuple",data:=.seq (π.map fun(i:Nat)=>rawInt i).toArray}∧h.get? a=some (dO es ep t)) where
 sub:=fun b hb=>by simp at hb;simp[hb]
 frame:=fun _ _ _ st hk=>⟨hk I (by simp) _ st.1,hk T (by simp) _ st.2.1,hk a (by simp) _ st.2.2⟩
 self:=fun _ _ _ _ st hQ=>vE st.1 hQ
 item:=fun i s Q E hi st hQ=>by
  obtain⟨hI,hT,ha⟩:=st
  rw[c_]at hi
  refine gX hI ha hf rfl ?_
  dsimp only
  refine zz0 (wpAny_seqItems hT rfl ?_)
  dsimp only
  have e:(π.map fun(i:Nat)=>rawInt i).toArray[i]? =some (.int (π[i]:Nat) 0):=by
   simp[hi,rawInt]
  rw[e]
  dsimp only
  have hj:=hp π[i] (List.getElem_mem hi)
  unfold setNextDrawn
  refine zz0 (zz0 (wpAny_setState_of ha rfl hf ?_))
  dsimp only
  rw[if_neg (by simp)]
  have e2:es[((π[i]:Nat):Int).toNat]? =some (es[π[i]]):=by simp[hj]
  rw[e2]
  refine zz1 ?_
  refine zz0 (dD hI rfl (by simp) fun h' hs' ho'=>?_)
  refine zz1 ⟨_,rfl,zz1 (hQ _ h' s.toks ?_ ⟨?_,?_,?_⟩ fun b o hb e=>hs'.extBut b o (fun z=>hb (by simp[z])) e)⟩
  ·simp[hi,Id,hj]
  ·rw[ho'];simp[rawInt]
  ·exact hs'.extBut T _ hTI hT
  ·exact hs'.extBut a _ haI ha
 done:=fun s Q E st hQ=>by
  obtain⟨hI,hT,ha⟩:=st
  refine gX hI ha hf rfl ?_
  dsimp only
  refine zz0 (wpAny_seqItems hT rfl ?_)
  dsimp only
  have e:(π.map fun(i:Nat)=>rawInt i).toArray[(π.map (Id es)).length]? =none:=by simp
  rw[e]
  dsimp only
  refine zz0 (dD hI rfl (by simp) fun h' hs' ho'=>?_)
  refine zz0 (dD (s:={s with heap:=h'}) ho' rfl (by simp) fun h2 hs2 _=>?_)
  exact vF (I:=I) (o:=dO es ep t) hh (fun h3 k=>hQ h3 s.toks fun b o hb e=>k b o (fun z=>hb (by simp[z])) e) (hs'.trans hs2).extBut
theorem oz{t:SetTable} {slot given:Nat} {Q:Option (Value×Nat)→Shared→Prop} (hb:w.params.followText "set-order"=true) (ha:s.heap.get? a=some (dO es ep t)) (hf:t.fits es.size=true)
  (h:Q (((pickOrder (w.params.setOrder a ep) es)[given]?).map fun e=>(e.2,slot)) s):wpAny (model prog w) A (setNext a slot given ep) Q E s:=by
 unfold setNext setsByText
 refine zz0 (wpAny_setState_of ha rfl hf ?_)
 dsimp only
 refine zz0 (zz0 (wpAny_askSetting (zz1 ?_)))
 rw[if_pos (show(model prog w).w.params.followText "set-order"=true from hb)]
 rw[if_neg (by simp)]
 refine zz0 ?_
 unfold setWalk setsByText
 refine zz0 (wpAny_setState_of ha rfl hf ?_)
 dsimp only
 refine zz0 (zz0 (wpAny_askSetting (zz1 ?_)))
 rw[if_pos (show(model prog w).w.params.followText "set-order"=true from hb)]
 refine zz0 (wpAny_askSetting (zz1 ?_))
 exact zz1 h
theorem qe{t:SetTable} {slot given:Nat} {Q:Option (Value×Nat)→Shared→Prop} (hb:w.params.followText "set-order"=false) (hsz:es.size≤1) (hled:t.led=true) (ha:s.heap.get? a=some (dO es ep t)) (hf:t.fits es.size=true)
  (h:Q (match es[SetTable.below t.place slot]?,t.place[SetTable.below t.place slot]? with |some (_,x),some j=>some (x,j+1) |_,_=>none) s):wpAny (model prog w) A (setNext a slot given ep) Q E s:=by
 unfold setNext setsByText
 refine zz0 (wpAny_setState_of ha rfl hf ?_)
 dsimp only
 refine zz0 (zz0 (wpAny_askSetting (zz1 ?_)))
 rw[if_neg (show ¬((model prog w).w.params.followText "set-order"=true) by show ¬(w.params.followText "set-order"=true);rw[hb];decide)]
 have hd:(!t.plain&&decide (es.size > 1))=false:=by rw[zz3 (by omega)];simp
 show wpAny _ _ (if (!t.plain&&decide (es.size > 1))=true then _ else _) _ _ _
 rw[hd,if_neg (by decide)]
 show wpAny _ _ ((if (!t.led&& !es.isEmpty)=true then unsupported "set:maker-not-led" else pure PUnit.unit) >>= _) _ _ _
 rw[hled,if_neg (by simp)]
 refine zz0 (zz1 ?_)
 exact zz1 h
theorem Cp(hh:A.handled=none)    {t:SetTable} (hb:w.params.followText "set-order"=true) (hf:t.fits es.size=true) (haI:a≠I):
  Walks prog w A I [I,a] [I] ((pickOrder (w.params.setOrder a ep) es).toList.map (·.2)).length (fun i v=>((pickOrder (w.params.setOrder a ep) es).toList.map (·.2))[i]? =some v)
   (fun i h=>h.get? I=some (wV (.int 0 0) i a es.size ep)∧h.get? a=some (dO es ep t)) where
 sub:=fun b hb=>by simp at hb;simp[hb]
 frame:=fun _ _ _ st hk=>⟨hk I (by simp) _ st.1,hk a (by simp) _ st.2⟩
 self:=fun _ _ _ _ st hQ=>vE st.1 hQ
 item:=fun i s Q E hi st hQ=>by
  obtain⟨hI,ha⟩:=st
  have hi':i < (pickOrder (w.params.setOrder a ep) es).size:=by simpa using hi
  refine gX hI ha hf rfl ?_
  dsimp only
  refine zz0 (oz hb ha hf ?_)
  rw[Array.getElem?_eq_getElem hi']
  dsimp only[Z1]
  refine zz0 (dD hI rfl (by simp) fun h' hs' ho'=>?_)
  refine zz0 (dD (s:={s with heap:=h'}) ho' rfl (by simp) fun h2 hs2 ho2=>?_)
  refine zz1 ⟨_,rfl,zz1 (hQ _ h2 s.toks ?_ ⟨?_,?_⟩ fun b o hb e=>(hs'.trans hs2).extBut b o (fun z=>hb (by simp[z])) e)⟩
  ·simp[hi']
  ·rw[ho2];simp[rawInt]
  ·exact(hs'.trans hs2).extBut a _ haI ha
 done:=fun s Q E st hQ=>by
  obtain⟨hI,ha⟩:=st
  refine gX hI ha hf rfl ?_
  dsimp only
  refine zz0 (oz hb ha hf ?_)
  rw[show(pickOrder (w.params.setOrder a ep) es)[((pickOrder (w.params.setOrder a ep) es).toList.map (·.2)).length]? =none by simp]
  dsimp only[Option.map_none]
  refine zz0 (dD hI rfl (by simp) fun h' hs' ho'=>?_)
  exact vF (I:=I) (o:=dO es ep t) hh (fun h3 k=>hQ h3 s.toks fun b o hb e=>k b o (fun z=>hb (by simp[z])) e) hs'.extBut
theorem rZ{xs:Array Nat}(h:xs.size≤1):SetTable.below xs 0=0:=by
 obtain⟨l⟩:=xs
 match l,h with
 |[],_=>rfl
 |[p],_=>simp[SetTable.below,SetTable.below.go]
theorem zS{p:Nat}:SetTable.below #[p] (p+1)=1:=by simp[SetTable.below,SetTable.below.go]
theorem Es(hh:A.handled=none)    {t:SetTable} (hb:w.params.followText "set-order"=false) (hsz:es.size≤1) (hled:t.led=true) (hf:t.fits es.size=true) (haI:a≠I):
  Walks prog w A I [I,a] [I] (es.toList.map (·.2)).length (fun i v=>(es.toList.map (·.2))[i]? =some v)
   (fun i h=>h.get? I=some (wV (.int (if i=0 then 0 else (t.place.getD 0 0+1:Nat)) 0) i a es.size ep)∧h.get? a=some (dO es ep t)) where
 sub:=fun b hb=>by simp at hb;simp[hb]
 frame:=fun _ _ _ st hk=>⟨hk I (by simp) _ st.1,hk a (by simp) _ st.2⟩
 self:=fun _ _ _ _ st hQ=>vE st.1 hQ
 item:=fun i s Q E hi st hQ=>by
  obtain⟨hI,ha⟩:=st
  have hi':i < es.size:=by simpa using hi
  have hi0:i=0:=by omega
  subst hi0
  rw[if_pos rfl]at hI
  have hps:t.place.size=es.size:=by
   have:=hf;simp only[SetTable.fits,yQ,beq_iff_eq]at this;exact this.1
  refine gX hI ha hf rfl ?_
  dsimp only
  refine zz0 (qe hb hsz hled ha hf ?_)
  rw[show((0:Int)).toNat=0 from rfl,rZ (by omega),Array.getElem?_eq_getElem hi',Array.getElem?_eq_getElem (show 0 < t.place.size by omega)]
  dsimp only
  refine zz0 (dD hI rfl (by simp) fun h' hs' ho'=>?_)
  refine zz0 (dD (s:={s with heap:=h'}) ho' rfl (by simp) fun h2 hs2 ho2=>?_)
  refine zz1 ⟨_,rfl,zz1 (hQ _ h2 s.toks ?_ ⟨?_,?_⟩ fun b o hb e=>(hs'.trans hs2).extBut b o (fun z=>hb (by simp[z])) e)⟩
  ·simp[hi']
  ·rw[ho2]
   have:t.place.getD 0 0=t.place[0]:=by simp[Array.getD,show 0 < t.place.size by omega]
   simp[rawInt,this]
  ·exact(hs'.trans hs2).extBut a _ haI ha
 done:=fun s Q E st hQ=>by
  obtain⟨hI,ha⟩:=st
  have hps:t.place.size=es.size:=by
   have:=hf;simp only[SetTable.fits,yQ,beq_iff_eq]at this;exact this.1
  have hlen:(es.toList.map (·.2)).length=es.size:=by simp
  rw[hlen]at hI
  refine gX hI ha hf rfl ?_
  dsimp only
  refine zz0 (qe hb hsz hled ha hf ?_)
  have hno:(match es[SetTable.below t.place (if es.size=0 then (0:Int)else ((t.place.getD 0 0+1:Nat):Int)).toNat]?,t.place[SetTable.below t.place (if es.size=0 then (0:Int)else ((t.place.getD 0 0+1:Nat):Int)).toNat]? with |some (_,x),some j=>some (x,j+1) |_,_=>(none:Option (Value×Nat)))=none:=by
   by_cases z:es.size=0
   ·rw[if_pos z,show((0:Int)).toNat=0 from rfl,rZ (by omega),Array.getElem?_eq_none (by omega)]
   ·rw[if_neg z]
    obtain⟨⟨p⟩,hp⟩:∃q:{p:Nat // t.place=#[p]},True:=by
     generalize t.place=pl at hps
     obtain⟨l⟩:=pl
     match l,hps with
     |[],h=>simp at h;omega
     |[p],h=>exact⟨⟨p,rfl⟩,trivial⟩
     |_::_::_,h=>simp at h;omega
    rename_i hpl
    rw[hpl]
    simp only[Int.toNat_natCast]
    have:(#[p]:Array Nat).getD 0 0=p:=rfl
    rw[this,zS,Array.getElem?_eq_none (show es.size≤1 by omega)]
  rw[hno]
  dsimp only
  refine zz0 (dD hI rfl (by simp) fun h' hs' ho'=>?_)
  exact vF (I:=I) (o:=dO es ep t) hh (fun h3 k=>hQ h3 s.toks fun b o hb e=>k b o (fun z=>hb (by simp[z])) e) hs'.extBut
theorem Et{t:SetTable}(ha:s.heap.get? a=some (dO es ep t))(S:SS w (mH w) ks es t)
  (hQ:∀(s':Shared) (I:Addr) (fp:List Addr) (St:Nat→Heap→Prop) (items:List Value),(∀b o,s.heap.get? b=some o→s'.heap.get? b=some o)→s.heap.objs.size≤s'.heap.objs.size→s'.gens=s.gens→s'.os=s.os→s'.toks=s.toks→(∀b∈fp,b=a∨s.heap.objs.size≤b)→s.heap.objs.size≤I→
   (∀A':Around,A'.handled=none→Walks prog w A' I fp [I] items.length (fun i v=>items[i]? =some v) St)→St 0 s'.heap→items.Perm (es.toList.map (·.2))→Q (.ref I) s'):
  wpAny (model prog w) A (pyIter (.ref a)) Q E s:=by
 have hT:s.TypeIs (.ref a) "set":=⟨_,ha,rfl⟩
 have hlt:a < s.heap.objs.size:=iC ha
 refine wpAny_pyIter_slot hT PySem.F.slot_set_iter (wpAny_call_entry PySem.F.slot_set_iter hT F.rY ?_ (PySem.F.args_set_iter_1 _))
 unfold Builtin.«frozenset.__iter__» Builtin.Frozenset.slot0 slotArgs
 simp only[List.isEmpty_nil,↓reduceIte,bind_assoc,Z5,bne_self_eq_false,gv]
 unfold Builtin.Frozenset.addrOf Builtin.Frozenset.sizeOf
 refine zz0 (zz1 ?_)
 try dsimp only
 refine zz0 (zz1 ?_)
 refine zz0 (zz0 (wpAny_setEntries_of ha rfl S.fits (zz1 ?_)))
 refine zz0 (wW ha S.fits ?_)
 cases hd:(!(w.params.followText "set-order")&&(!t.plain&&decide (es.size > 1)))with
 |true=>
  simp only[↓reduceIte]
  refine zz0 (kY es.size (List.range es.size) s (by simp) fun π d hp=>?_)
  have hl:π.length=es.size:=by rw[hp.length_eq,List.length_range]
  have hm:∀j∈π,j < es.size:=fun j hj=>List.mem_range.mp (hp.mem_iff.mp hj)
  refine zz0 (wpAny_newTuple (s:={s with drawn:=d}) ?_ (by rw[c_,hl];exact fits_of_scanBound S.bound))
  have ha2:(s.heap.push {cls:=.type "tuple",data:=.seq (π.map fun(i:Nat)=>rawInt i).toArray}).get? a=some (dO es ep t):=iB _ ha
  refine zz0 (wpAny_setEpoch_of (s:={s with drawn:=d,heap:=s.heap.push {cls:=.type "tuple",data:=.seq (π.map fun(i:Nat)=>rawInt i).toArray}}) ha2 rfl S.fits ?_)
  refine zz0 (wpAny_newObj_type ?_)
  have hs1:(s.heap.push {cls:=.type "tuple",data:=.seq (π.map fun(i:Nat)=>rawInt i).toArray}).objs.size=s.heap.objs.size+1:=by rw[zzB]
  refine zz1 ⟨_,rfl,"set_iterator",_,⟨_,nY _ rfl,rfl⟩,F.slot_next.lookup,?_⟩
  refine hQ _ _ _ _ (π.map (Id es)) (fun b o e=>iB _ (iB _ e)) (by rw[zzB,zzB];omega) rfl rfl rfl ?_ (by dsimp only;rw[hs1];omega)
   (fun A' hA=>zR hA (T:=s.heap.objs.size) (a:=a) (ep:=ep) (t:=t) π hm hl S.fits (by dsimp only;rw[hs1];exact jE (zzA _)) (by dsimp only;rw[hs1];exact jE (yP hlt)))
   ⟨nY _ rfl,iB _ (nY _ rfl),iB _ ha2⟩ ?_
  ·intro b hb
   rcases Zap.mp hb with rfl |hb
   ·right;dsimp only;rw[hs1];omega
   rcases Zap.mp hb with rfl |hb
   ·right;exact gR _
   ·left;exact Zaf.mp hb
  ·refine(hp.map (Id es)).trans ?_
   rw[show(List.range es.size).map (Id es)=es.toList.map (·.2)from ?_]
   refine List.ext_getElem (by simp) fun i h1 h2=>?_
   have hi:i < es.size:=by simpa using h1
   simp[Id,hi]
 |false=>
  simp only[Bool.false_eq_true,↓reduceIte]
  refine zz0 (zz1 ?_)
  refine zz0 (wpAny_setEpoch_of ha rfl S.fits ?_)
  refine zz0 (wpAny_newObj_type ?_)
  refine zz1 ⟨_,rfl,"set_iterator",_,⟨_,nY _ rfl,rfl⟩,F.slot_next.lookup,?_⟩
  have hfp:∀b∈[s.heap.objs.size,a],b=a∨s.heap.objs.size≤b:=fun b hb=>by
   rcases Zap.mp hb with rfl |hb
   ·right;exact gR _
   ·left;exact Zaf.mp hb
  cases hb:w.params.followText "set-order" with
  |true=>
   exact hQ _ _ _ _ ((pickOrder (w.params.setOrder a ep) es).toList.map (·.2)) (fun b o e=>iB _ e) (by rw[zzB];omega) rfl rfl rfl hfp (gR _)
    (fun A' hA=>Cp hA (t:=t) hb S.fits (jE hlt)) ⟨nY _ rfl,iB _ ha⟩ ((rX _ es).map _)
  |false=>
   have hled:t.led=true:=by rw[S.led,mH,hb];rfl
   have hsz:es.size≤1:=by
    rw[hb]at hd
    by_cases z:es.size=0
    ·omega
    ·rw[S.plain z]at hd
     simp at hd
     omega
   exact hQ _ _ _ _ (es.toList.map (·.2)) (fun b o e=>iB _ e) (by rw[zzB];omega) rfl rfl rfl hfp (gR _)
    (fun A' hA=>Es hA (t:=t) hb hsz hled S.fits (jE hlt)) ⟨nY _ rfl,iB _ ha⟩ (List.Perm.refl _)
end
end NhSet
namespace NhSet
open PySem PyProof.Rows
namespace F
theorem GT:typeLookup (.type "set") "__len__"=pure (some (.builtin "set.__len__")):=by rw[typeLookup_type,builtinLookup_eq_fast];kernel_rfl
end F
section
variable {prog:Program} {w:World} {A:Around} {E:Value→Shared→Prop} {s:Shared}
theorem wX{t:SetTable}{Q:List Value→Shared→Prop}(hh:A.handled=none)(ha:s.heap.get? a=some (dO es ep t))(S:SS w (mH w) ks es t)
  (hQ:∀(s':Shared) (items:List Value),(∀b o,s.heap.get? b=some o→s'.heap.get? b=some o)→s'.gens=s.gens→s'.os=s.os→s.heap.objs.size≤s'.heap.objs.size→items.Perm (es.toList.map (·.2))→Q items s'):
  wpAny (model prog w) A (collect (.ref a)) Q E s:=by
 have hlt:a < s.heap.objs.size:=iC ha
 unfold collect
 refine zz0 (wpAny_runValue (codeAny_builtin PySem.F.entry_proto_collect ?_))
 rw[Around.under_plainId PySem.F.plain_proto_collect _]
 show wpAny _ A.in1 (newList [] >>= fun l=>again (.builtin "list.__iadd__" ⟨[l,.ref a],[]⟩)) _ _ s
 refine zz0 (wpAny_newObj_type ?_)
 refine zz1 ⟨plainId_quiet PySem.F.plain_list_iadd _,codeAny_builtin PySem.F.entry_list_iadd ?_⟩
 rw[Around.under_plainId PySem.F.plain_list_iadd _]
 show wpAny _ A.in1 (Builtin.List.listExtendWith (.ref s.heap.objs.size) (.ref a) (.ref s.heap.objs.size)) _ _ _
 unfold Builtin.List.listExtendWith
 have ha1:(s.heap.push {cls:=.type "list",data:=.seq ([]:List Value).toArray}).get? a=some (dO es ep t):=iB _ ha
 have hT1:Shared.TypeIs {s with heap:=s.heap.push {cls:=.type "list",data:=.seq ([]:List Value).toArray}} (.ref a) "set":=⟨_,ha1,rfl⟩
 refine zz0 (wpAny_typeOf hT1 ?_)
 have h1:Builtin.List.listSameRef (.ref s.heap.objs.size) (.ref a)=false:=by simp[Builtin.List.listSameRef];exact Nat.ne_of_gt hlt
 have h2:(Value.type "set" == Value.type "list")=false:=by decide
 have h3:(Value.type "set" == Value.type "tuple")=false:=by decide
 simp only[h1,h2,h3,Bool.or_false,gv]
 refine zz0 (Et ha1 S fun s2 I fp St items k2 z2 g2 o2 t2 hfp hI W hst hp=>?_)
 have hT2:s2.TypeIs (.ref a) "set":=⟨_,k2 a _ ha1,rfl⟩
 refine zz0 (zz7 ?_)
 unfold Builtin.List.listLengthHint
 refine zz0 (wpAny_specialOf hT2 F.GT ?_)
 wp_delta
 refine zz0 (wpAny_isInstance (T:="set") (b:=true) hT2 sub_set_self ?_)
 show wpAny _ A.in1 (typeOf (Value.ref a) >>= _) _ _ _
 refine zz0 (wpAny_typeOf hT2 ?_)
 refine zz1 ?_
 rw[if_pos (by decide)]
 refine zz0 (wpAny_rule ?_)
 have hS0:s2.heap.get? s.heap.objs.size=some {cls:=.type "list",data:=.seq ([]:List Value).toArray}:=k2 _ _ (nY _ rfl)
 refine zz0 ?_
 show wpAny _ A.in1 (updateSeq s.heap.objs.size (·.push .none) >>= fun _=>updateSeq s.heap.objs.size (·.pop)) _ _ _
 refine zz0 (wpAny_updateSeq hS0 rfl ?_)
 have hS2:=Heap.get?_update_self (Obj.mapSeq (·.push Value.none)) hS0 rfl
 refine wpAny_updateSeq hS2 rfl ?_
 have hS3:=Heap.get?_update_self (Obj.mapSeq (·.pop)) hS2 rfl
 have oth:∀b o,b≠s.heap.objs.size→s2.heap.get? b=some o→
   ((s2.heap.update s.heap.objs.size (Obj.mapSeq (·.push Value.none))).update s.heap.objs.size (Obj.mapSeq (·.pop))).get? b=some o:=
  fun b o hb e=>(Heap.get?_update_other _ _ (Ne.symm hb)).trans ((Heap.get?_update_other _ _ (Ne.symm hb)).trans e)
 have hz1:(s.heap.push {cls:=.type "list",data:=.seq ([]:List Value).toArray}).objs.size=s.heap.objs.size+1:=by rw[zzB]
 have hnS:∀b,(s.heap.push {cls:=.type "list",data:=.seq ([]:List Value).toArray}).objs.size≤b→b≠s.heap.objs.size:=fun b hb e=>by
  rw[hz1,e]at hb;exact Nat.not_succ_le_self _ hb
 have hSf:s.heap.objs.size∉fp:=fun hm=>by
  rcases hfp _ hm with e |e
  ·exact absurd e (Nat.ne_of_gt hlt)
  ·exact hnS _ e rfl
 have hlen:items.length≤sizeLine:=by
  rw[hp.length_eq];simpa using fits_of_scanBound S.bound
 refine zz1 ⟨plainId_quiet PySem.F.plain_extend_loop _,codeAny_extend_loopS (W A.in1 (by simp[hh])).toS hlen _ hSf _ items.length 0 _ _ _ rfl (pT _)
  ((W A.in1 (by simp[hh])).frame 0 s2.heap _ hst fun b hb o e=>oth b o (fun z=>hSf (z▸hb)) e) hS3 (ItemsOf.nil _) fun s' acc' c' hm hS' hacc=>?_⟩
 show wpAny _ A (load s.heap.objs.size >>= _) _ _ s'
 refine zz0 (wpAny_load hS' ?_)
 have hacc':acc'.toList=items:=by
  refine List.ext_getElem? fun i=>?_
  rw[Array.getElem?_toList]
  by_cases hi:i < acc'.size
  ·rw[Array.getElem?_eq_getElem hi]
   exact(hacc.2 i _ (Array.getElem?_eq_getElem hi)).symm
  ·rw[Array.getElem?_eq_none (by omega),List.getElem?_eq_none (by rw[←hacc.1];omega)]
 refine zz1 ?_
 rw[hacc']
 refine hQ s' items (fun b o e=>?_) (hm.gens.trans g2) (hm.os.trans o2) (mY (iC hS')) hp
 have hb:b < s.heap.objs.size:=iC e
 refine hm.heap b o (fun z=>?_) (oth b o (jE hb) (k2 b o (iB _ e)))
 rcases Zap.mp z with z |z
 ·exact absurd z (jE hb)
 ·rw[Zaf.mp z]at hb
  have hI':s.heap.objs.size+1≤I:=by rw[←hz1];exact hI
  exact absurd (nZ (zzA _) hI') (Nat.lt_asymm hb)
theorem zU(hh:A.handled=none)(hS:StrSet w s.heap a (mH w) ks)(h64:ks.length < 64)
  (h:∀(s':Shared) (l:Addr) (out:Array Value) (e:Nat) (ss':List Str),(∀b o,s.heap.get? b=some o→s'.heap.get? b=some o)→s'.gens=s.gens→s'.os=s.os→s.heap.objs.size≤l→s'.heap.get? l=some (seqObj "list" out e)→StrsAre out.toList ss'→ss'.Perm ks→sortedS ss'=true→Q (.ref l) s'):
  wpAny (model prog w) A (call (.builtin "sorted") [.ref a]) Q E s:=by
 obtain⟨es,ep,t,ha,S⟩:=hS
 refine Calls.call_function_entry kind_sorted plain_sorted entry_sorted (args_sorted1 _) ?_
 unfold Builtin.«sorted»
 refine zz0 (m:=checkCount "sorted" 1 1 _) (zz1 ?_)
 refine zz0 (wX (by simp[hh]) ha S fun s1 items k1 g1 o1 hsz hp=>?_)
 have hpk:(items.map strOf).Perm ks:=(hp.map strOf).trans (by rw[List.map_map];exact S.perm)
 have hst:∀v∈items,∃x tk,v=.str x tk:=fun v hv=>by
  obtain⟨e,he,rfl⟩:=Zay.mp (hp.mem_iff.mp hv)
  obtain⟨x,tk,rfl⟩:=S.elems e he
  exact⟨x,tk,rfl⟩
 have hSA:=strsAre_map items hst
 have hl64:items.length < 64:=by have:=hpk.length_eq;rw[c_]at this;omega
 refine zz0 (wpAny_newList ?_)
 have hoL:(s1.heap.push (seqObj "list" items.toArray 0)).get? s1.heap.objs.size=some (seqObj "list" items.toArray 0):=nY _ rfl
 refine zz0 (zz7 (wpAny_call_entry slot_list_sort ⟨_,hoL,rfl⟩ entry_list_sort (list_sort_treeK (s:={s1 with heap:=s1.heap.push (seqObj "list" items.toArray 0)}) strKind_oneLt hoL hSA.keysOf (fun v₁ v₂ dv e=>keyKind_strs (by rw[←e];exact hSA)) hl64 fun st' a1 a2=>⟨_,rfl,?_⟩) (args_list_sort _)))
 obtain⟨ss',b1,b2,b3⟩:=sorted_out_str hSA a1 a2
 obtain⟨e,he⟩:=sortedHeap_at (out:=(arrOf st').map (·.2)) hoL
 refine zz1 ⟨_,rfl,h _ s1.heap.objs.size _ e ss' (fun b o hb=>?_) g1 o1 hsz he b1 (b2.trans hpk) b3⟩
 have hb1:=k1 b o hb
 have hlt:=iC hb1
 dsimp only
 rw[sortedHeap_old (jE hlt) (by rw[size_push'];exact yP hlt),Heap.get?_push_ne _ _ _ (jE hlt)]
 exact hb1
end
end NhSet
namespace PL
open PySem L2 Nh
def wY(w:World)(a:Addr)(ks:List Str):HO:=.ext fun h=>NhSet.StrSet w h a (NhSet.mH w) ks
theorem Eu(ns:List Str)(n:Nat)(h:n=ns.length):NhSet.m_ (fun i=>ns.getD i ⟨#[]⟩) n=jC ns:=by
 have e:(List.range n).map (fun i=>ns.getD i ⟨#[]⟩)=ns:=by
  subst h
  refine List.ext_getElem (by simp) fun i h1 h2=>?_
  simp[h2]
 show((List.range n).map (fun i=>ns.getD i ⟨#[]⟩)).foldl NhSet.qF []=ns.foldl F8 []
 rw[e]
 rfl
theorem Cq(x:Str):NhSet.m_ (NhSet.kq x) x.cps.size=jC (lj x):=by
 have e:(List.range x.cps.size).map (NhSet.kq x)=lj x:=by
  refine List.ext_getElem (by simp[lj]) fun i h1 h2=>?_
  have hi:i < x.cps.size:=by simpa using h1
  simp[lj,NhSet.kq,hi]
 show((List.range x.cps.size).map (NhSet.kq x)).foldl NhSet.qF []=(lj x).foldl F8 []
 rw[e]
 rfl
section
variable {X:Cx} {e:Expr} {m1:Bool} {f:aY} {p p2 pos pos2:Pos}
def MG(K:Frag)(w:World):List V→Hp→VK→Prop:=fun xs H Q=>
 (∃(p:Addr) (ss:List Str),xs=[.ref p]∧SqL K H p (ss.map V.str)∧ss.length < 4000∧∀a,H a=none→Q (.ref a) (fg H a (wY w a (jC ss))))∨
 ∃x:Str,xs=[.str x]∧(lj x).length < 4000∧∀a,H a=none→Q (.ref a) (fg H a (wY w a (jC (lj x))))
theorem uh(hc:X.calm=true):CallR X (.type "set") (MG X.K X.w):=by
 intro pins s σ H xs us Q I r h
 rcases h with⟨p,ss,rfl,hq,hl,q⟩ |⟨x,rfl,hl,q⟩
 ·cases r with
  |cons r rr=>
   cases rr
   cases r
   obtain⟨its,rv,pl,hz⟩:=I.list hq
   have hS:=rT rv
   have hlen:its.length=ss.length:=by have:=rv.length;simpa using this.symm
   refine NhSet.Cl (I.ok.hd hc) pl.isList (by simpa using hS) (by simp only[n4,scanBound];omega) fun h' tk S k=>?_
   rw[Eu ss its.toArray.size (by simpa using hlen)]at S
   exact⟨.ref s.heap.objs.size,_,I.laid (fun b o e=>k b o (iC e) e) (gR _) (show ObjOk X.prog X.w _ _ _ (wY X.w s.heap.objs.size (jC ss))from⟨S,S.obj,fun h1 h2 T kk=>T.at' kk⟩),rfl,q _ (I.hok.fresh (gR _))⟩
 ·cases r with
  |cons r rr=>
   cases rr
   obtain⟨t,rfl⟩:=r
   have hl2:x.cps.size < 4000:=by simpa[lj]using hl
   refine NhSet.Er (I.ok.hd hc) (by simp only[scanBound];omega) fun h' tk S k=>?_
   rw[Cq]at S
   exact⟨.ref s.heap.objs.size,_,I.laid (fun b o e=>k b o (iC e) e) (gR _) (show ObjOk X.prog X.w _ _ _ (wY X.w s.heap.objs.size (jC (lj x)))from⟨S,S.obj,fun h1 h2 T kk=>T.at' kk⟩),rfl,q _ (I.hok.fresh (gR _))⟩
def Ev(w:World):List V→Hp→VK→Prop:=fun xs H Q=>∃(a:Addr) (ks:List Str),xs=[.ref a]∧H a=some (wY w a ks)∧ks.length < 64∧∀l,H l=none→Q (.ref l) (fg H l (.lst ((jI ks).map V.str)))
theorem vG(hc:X.calm=true):CallR X (.builtin "sorted") (Ev X.w):=by
 intro pins s σ H xs us Q I r h
 obtain⟨a,ks,rfl,ha,h64,q⟩:=h
 cases r with
 |cons r rr=>
  cases rr
  cases r
  obtain⟨S,_,_⟩:ObjOk X.prog X.w H s.heap a (wY X.w a ks):=I.hok a _ ha
  refine NhSet.zU (I.ok.hd hc) S h64 fun s' l out e ss' k g o hl he b1 b2 b3=>?_
  have:=rS b2 b3
  subst this
  have new:ObjOk X.prog X.w (fg H l (.lst ((jI ks).map V.str))) s'.heap l (.lst ((jI ks).map V.str)):=⟨by rw[c_,mi];exact i_ (by omega),out.toList,e,rV b1,he⟩
  exact⟨.ref l,_,I.call' (ch:=[]) o (Un.laid k hl (I.hok.fresh hl)) (I.hok.laid k hl new) (by rw[g];exact I.bare) (fun _ z=>nomatch z),rfl,q _ (I.hok.fresh hl)⟩
theorem jd(hc:X.calm=true) (hg:Gl X "sorted") (hm:X.mg "sorted"=none) (hg2:Gl X "set") (hm2:X.mg "set"=none) (ha:EX X e m1 f) (he:starEach [e] X.env=[(false,eval e X.env)]:=by rfl)
  (yU:starEach [.Call (.Name "set" p2) [e] [] pos2] X.env=[(false,eval (.Call (.Name "set" p2) [e] [] pos2) X.env)]:=by rfl):EX X (.Call (.Name "sorted" p) [.Call (.Name "set" p2) [e] [] pos2] [] pos) m1 (b7 f):=by
 refine bx (jT (vG hc) hg hm PyProof.Rows.boot_sorted (cw (l6 (uh hc) hg2 hm2 PyProof.Rows.boot_set (cw ha eY he) (by decide) (by decide) he rfl) eY yU) (by decide) (by decide) yU rfl) fun σ H Q z=>?_
 obtain⟨B,E,xs,Xs,res,E',fr,cl,e,q⟩:=z
 obtain⟨⟨s,E1⟩,e1,e⟩:=Za.mp e
 refine⟨B,E,xs,Xs,s,E1,fr,cl,e1,fun v1 H1 ⟨F,A,fr1⟩=>?_⟩
 obtain⟨A',fr2⟩:=fr1.pop
 simp only at e
 split at e
 ·rename_i ds ld
  obtain⟨ss,es,e⟩:=Za.mp e
  split at e
  ·rename_i hc
   cases e
   have r:=(fr1.look0 ld).1
   cases r with
   |lst h1 h2=>
    have:=qR h2 es
    subst this
    exact .inl ⟨_,ss,rfl,h1,hc.1,fun a ha=>⟨a,_,rfl,ce,hc.2,fun l hl=>q _ _ ⟨_,_,(fr2.grow (i9 ha _)).newl (lD _) hl⟩⟩⟩
  ·cases e
 ·rename_i x ld
  split at e
  ·rename_i hc
   cases e
   have r:=(fr1.look0 ld).1
   cases r
   exact .inr ⟨x,rfl,hc.1,fun a ha=>⟨a,_,rfl,ce,hc.2,fun l hl=>q _ _ ⟨_,_,(fr2.grow (i9 ha _)).newl (lD _) hl⟩⟩⟩
  ·cases e
 ·cases e
end
end PL
namespace PL
open PySem L2 Nh
theorem AV{i:Int} {t:Tok} {pos:Pos} (hg:Gl X x) (hm:X.mg x=some (.int i t)) (hd:(x == ("__debug__":Str))=false:=by decide):EX X (.Name x pos) false (pC (.int i)):=by
 refine bx (uM (v:=.int i) hg hm ⟨t,rfl⟩ hd) fun σ H Q z=>?_
 obtain⟨B,E,xs,Xs,res,E',⟨F,A,fr⟩,cl,e,q⟩:=z
 cases e
 exact q _ _ ⟨F,A,fr.push ⟨rfl,_,rfl,.int _⟩⟩
theorem GU{y:Str} {t:Tok} {pos:Pos} (hg:Gl X x) (hm:X.mg x=some (.str y t)) (hd:(x == ("__debug__":Str))=false:=by decide):EX X (.Name x pos) false (pC (.str y)):=by
 refine bx (uM (v:=.str y) hg hm ⟨t,rfl⟩ hd) fun σ H Q z=>?_
 obtain⟨B,E,xs,Xs,res,E',⟨F,A,fr⟩,cl,e,q⟩:=z
 cases e
 exact q _ _ ⟨F,A,fr.push ⟨rfl,_,rfl,.str _⟩⟩
end PL
namespace Nh
open PySem L2
theorem NailsOk.stp{r:List Pc}{p:Pc}(h:NailsOk r)(hp:p.1 < 128):NailsOk (NH.stp r p):=by
 cases r with
 |nil=>
  show NailsOk (if p.2=0 then []else [p])
  split
  ·exact h
  ·intro q hq;rw[Zaf.mp hq];exact hp
 |cons x r=>
  rw[NH.jV]
  intro q hq
  rcases Zai.mp hq with h1 |h1
  ·unfold NH.qP at h1
   split at h1
   ·split at h1
    ·cases h1
    ·rw[Zaf.mp h1];exact hp
   ·split at h1
    ·rw[Zaf.mp h1];exact h x (g_ ..)
    ·rcases Zap.mp h1 with h2 |h2
     ·rw[h2];exact hp
     ·rw[Zaf.mp h2];exact h x (g_ ..)
  ·exact h q (gN _ h1)
theorem NailsOk.foldl:∀(c:List Pc) {r:List Pc},NailsOk r→NailsOk c→NailsOk (c.foldl NH.stp r)
 |[],_,h,_=>h
 |p::c,_,h,hc=>NailsOk.foldl c (h.stp (hc p (g_ ..))) fun q hq=>hc q (gN _ hq)
theorem NailsOk.reverse(h:NailsOk c):NailsOk c.reverse:=fun p hp=>h p (List.mem_reverse.mp hp)
theorem NailsOk.short(h:NailsOk c):NailsOk (NH.short c):=(NailsOk.foldl c (fun _ z=>by cases z) h).reverse
theorem uk:NailsOk []:=fun _ z=>by cases z
end Nh
namespace Nh
open PySem L2 PL
def l4(i:Int):Nat:=[97,98,99,122].getD i.toNat 97
theorem Lj:∀j,j < 26→(Str.ofString "abcdefghijklmnopqrstuvwxyz").cps.toList[j]? =some (97+j):=by decide+kernel
theorem GV:∀j,j < 4→(Str.ofString "abcz").cps.toList[j]? =some ([97,98,99,122].getD j 97):=by decide+kernel
theorem vH(v:Int):atI (Str.ofString "abcz").cps.toList (v % 4)=some (l4 (v % 4)):=by
 have h0:=Int.emod_nonneg v (show(4:Int)≠0 by decide)
 have h1:=Int.emod_lt_of_pos v (show(0:Int) < 4 by decide)
 rw[zK h0]
 exact GV _ (by omega)
theorem Lk(v:Int):atI (Str.ofString "abcdefghijklmnopqrstuvwxyz").cps.toList (v % 26)=some (97+(v % 26).toNat):=by
 have h0:=Int.emod_nonneg v (show(26:Int)≠0 by decide)
 have h1:=Int.emod_lt_of_pos v (show(0:Int) < 26 by decide)
 rw[zK h0]
 exact Lj _ (by omega)
theorem oA:(Str.ofString "abcz").length≤1000000:=by decide+kernel
theorem Ew:(Str.ofString "abcdefghijklmnopqrstuvwxyz").length≤1000000:=by decide+kernel
theorem qS{i j:Int}(h1: -(2 ^ 64) < j)(h2:j < 2 ^ 64):gw i j=true:=by
 simp only[gw,Bool.or_eq_true,decide_eq_true_eq]
 exact .inl (.inr ⟨h1,h2⟩)
theorem kr{i j:Int}(h1: -(2 ^ 64) < i)(h2:i < 2 ^ 64):gw i j=true:=by
 simp only[gw,Bool.or_eq_true,decide_eq_true_eq]
 exact .inl (.inl ⟨h1,h2⟩)
theorem iP(i j:Int):AM (.int i) (.int j)=some (decide (i=j)):=rfl
theorem AW(i j:Str):AM (.str i) (.str j)=some (decide (i=j)):=rfl
theorem r8{d:List Pc}(hc:NailsOk c)(hd:NailsOk d):AM (.list (c.map av)) (.list (d.map av))=some (decide (c=d)):=by
 have e:AM (.list (c.map av)) (.list (d.map av))=(if SeqAt.shaped (oa c)&&SeqAt.shaped (oa d)then some (PyData.eqv (oa c) (oa d))else none):=rfl
 rw[e,pV hc,pV hd,DR]
 rfl
theorem kt(hc:NailsOk c):AM (.list (c.map av)) (.list [])=some (decide (c=[])):=r8 hc uk
theorem ul(c:List Pc):c.reverse.foldl NH.stp []=NH.rk c:=by
 unfold NH.rk
 rw[List.foldl_reverse]
theorem GW(a b:Nat):((⟨#[a]⟩:Str)=⟨#[b]⟩)=(a=b):=propext ⟨fun h=>by
 injection h with h
 simpa using congrArg Array.toList h,fun h=>by rw[h]⟩
end Nh
namespace L2
open PySem PySem.Spec PyProof.Rows
def AY(K:Frag)(h:Heap):Prop:=∀b q,qx K b=some q→h.get? b=some (tabObj #[])∧(∃c,PySem.W.CodeHd h c b)∧K.lookup b=none
def e8(K:Frag)(a:Addr)(so:Option HO):Hp:=fun b=>match qx K b with
 |some q=>some (.tbl q)
 |none=>if b=a then so else none
theorem zV{K:Frag}{b:Addr}{q:Str}(e:qx K b=some q):e8 K a so b=some (.tbl q):=by unfold e8;rw[e]
theorem Cr{K:Frag}(e:qx K a=none):e8 K a so a=so:=by unfold e8;rw[e];exact if_pos rfl
theorem iv{K:Frag}{b:Addr}{u:HO}(e:e8 K a so b=some u):(∃q,qx K b=some q∧u=.tbl q)∨(b=a∧so=some u):=by
 unfold e8 at e
 split at e
 ·rename_i q h;cases e;exact .inl ⟨q,h,rfl⟩
 ·by_cases hb:b=a
  ·rw[if_pos hb]at e;exact .inr ⟨hb,e⟩
  ·rw[if_neg hb]at e;cases e
section
variable {P:Program} {w:World} {K:Frag} {mg mb:Str→Option Value} {CX:DF} {k:Nat} {fa a:Addr} {fd:FuncData} {x:Str} {sp:Sp} {s₁:Shared} {vs:List Value} {ns:List Int}
theorem GY(KX:K.In s₁.heap) (hns:s₁.heap.Ns mainGlobals mg) (hb:s₁.heap.Ns builtinsNs mb) (hbb:∀x:Str,x≠"__name__"→mb x=bootBuiltins x) (hlim:s₁.heap.NoLimit) (hg:s₁.gens=#[]) (hbm:∃bm ob,mg "__builtins__"=some (.ref bm)∧bm≠builtinsNs∧s₁.heap.get? bm=some ob∧ob.cls=.type "module"∧ob.dict=some builtinsNs∧ob.data=.plain) (hT:AY K s₁.heap)
  (ha:s₁.heap.get? a=some {cls:=.type "list",data:=.seq vs.toArray}) (hi:IntsAre vs ns) (hl:ns.length≤sizeLine) (hr:Room k callerA)
  (F:∀base:Heap,K.In base→base.Ns mainGlobals mg→FnOk P w K mg base CX k fa fd [x] sp) (hbind:∀(s:Shared) (u:Value),BindsTo s fd ⟨[u],[]⟩ [(x,u)])
  (hsp:∀H:Hp,SqL K H a (ns.map V.int)→sp [.ref a] H (fun v _=>v=.bl true) fun _ _ _=>False)
  (hCX:∀H e s',CX [] H s₁ (fun _ _ _=>False) e s'→False):
  codeAny (model P w) callerA (.call (.ref fa) ⟨[.ref a],[]⟩) (fun r s'=>r=.ok (.ret (.bool true))∧OldK s₁.heap s'.heap∧s'.os=s₁.os∧AllBare s'.gens) s₁:=by
 have rv:=jU hi
 have lenV:=hi.length
 have tabA:qx K a=none:=by
  cases q:qx K a with
  |none=>rfl
  |some z=>
   have e:=(hT a z q).1
   rw[ha]at e
   cases e
 have main:∀so:Option HO,(so=none∨(so=some (.frz {cls:=.type "list",data:=.seq vs.toArray} (.lst (ns.map V.int)))∧K.lookup a=none))→SqL K (e8 K a so) a (ns.map V.int)→
   codeAny (model P w) callerA (.call (.ref fa) ⟨[.ref a],[]⟩) (fun r s'=>r=.ok (.ret (.bool true))∧OldK s₁.heap s'.heap∧s'.os=s₁.os∧AllBare s'.gens) s₁:=by
  intro so hso hS
  have hok:HOk P w (e8 K a so) s₁.heap:=fun b u e=>by
   rcases iv e with⟨q,e1,rfl⟩ |⟨rfl,e1⟩
   ·exact ObjOk.tbl0 (hT b q e1).1
   ·rcases hso with z |⟨z,_⟩
    ·rw[z]at e1;cases e1
    ·rw[z]at e1;cases e1
     exact⟨ha,by rw[c_];exact hl,vs,_,rv,ha⟩
  have free:∀{b:Addr} {o:Obj} {es:Array DictEntry} {ep:Nat},s₁.heap.get? b=some o→o.data=.dict es ep→e8 K a so b=none:=fun {b o es ep} e d=>by
   cases q:e8 K a so b with
   |none=>rfl
   |some u=>
    rcases iv q with⟨z,e1,_⟩ |⟨rfl,_⟩
    ·rw[(hT b z e1).1]at e;cases e;cases d
    ·rw[ha]at e;cases e;cases d
  have nsK:∀{b:Addr} {m:Str→Option Value},s₁.heap.Ns b m→(wn s₁.heap (e8 K a so)).Ns b m:=fun {b m} ⟨o,es,ep,e,d,r⟩=>⟨o,es,ep,q9 e (free e d),d,r⟩
  have kin:K.In (wn s₁.heap (e8 K a so)):=fun b o e=>q9 (KX b o e) (by
   cases q:e8 K a so b with
   |none=>rfl
   |some u=>
    rcases iv q with⟨z,e1,_⟩ |⟨rfl,e1⟩
    ·rw[(hT b z e1).2.2]at e;cases e
    ·rcases hso with z |⟨_,z⟩
     ·rw[z]at e1;cases e1
     ·rw[z]at e;cases e)
  have bmK:∃bm ob,mg "__builtins__"=some (.ref bm)∧bm≠builtinsNs∧(wn s₁.heap (e8 K a so)).get? bm=some ob∧ob.cls=.type "module"∧ob.dict=some builtinsNs∧ob.data=.plain:=by
   obtain⟨bm,ob,c1,c2,c3,c4,c5⟩:=hbm
   refine⟨bm,ob,c1,c2,q9 c3 ?_,c4,c5⟩
   cases q:e8 K a so bm with
   |none=>rfl
   |some u=>
    rcases iv q with⟨z,e1,_⟩ |⟨rfl,_⟩
    ·rw[(hT bm z e1).1]at c3;cases c3;cases c4
    ·rw[ha]at c3
     cases c3
     injection c4 with c6
     exact absurd c6 (by decide)
  have e0:Env0 P w K mg (wn s₁.heap (e8 K a so)) callerA [] s₁ (e8 K a so):=
   ⟨rfl,⟨kin,nsK hns,⟨mb,nsK hb,hbb⟩,let ⟨mc,h1,h2⟩:=hlim;⟨mc,nsK h1,h2⟩,bmK⟩,fun b o e=>F_ e,Nat.le_of_eq (BP _ _),trivial,fun b hb=>absurd (show b∈([]:List Addr)from hb) (by simp),hok,.of_eq hg,fun b q e=>zV e⟩
  refine codeAny_mono ((F _ kin (nsK hns)).run callerA [] s₁ _ ⟨[.ref a],[]⟩ [.ref a] [.ref a] _ _ hr e0 (hbind s₁ (.ref a)) (.cons rfl .nil) (hsp _ hS)) fun r s' h=>?_
  cases r with
  |error e=>exact(hCX _ e s' h).elim
  |ok fl=>
   cases fl with
   |next=>exact False.elim h
   |brk=>exact False.elim h
   |cont=>exact False.elim h
   |ret u=>
    obtain⟨v,H',os,bare,un,hok',r',q⟩:=h
    have q':v=.bl true:=q
    subst q'
    obtain rfl:u=Value.bool true:=r'
    have nofs:∀b,b∉qy ([]:List Env):=fun b z=>absurd (show b∈([]:List Addr)from z) (by simp)
    have step:∀b o,s₁.heap.get? b=some o→asItWas s₁.heap s'.heap b o∧∃o',s'.heap.get? b=some o':=fun b o e=>by
     cases q:e8 K a so b with
     |none=>exact⟨.inl (un.keep b o e q (nofs b) (by simp)),_,un.keep b o e q (nofs b) (by simp)⟩
     |some u=>
      rcases iv q with⟨z,e1,rfl⟩ |⟨rfl,e1⟩
      ·obtain⟨t1,⟨c,t2⟩,_⟩:=hT b z e1
       obtain⟨ps,p1,_⟩:=hok' b _ (un.tbls b z q)
       rw[t1]at e
       cases e
       exact⟨.inr (.inl ⟨(t2.tab t1).isCodeTable,rfl,#[],ps,rfl,by simpa using p1⟩),_,p1⟩
      ·rcases hso with z |⟨z,_⟩
       ·rw[z]at e1;cases e1
       ·rw[z]at e1;cases e1
        have z2:=un.frzs b _ _ q
        obtain⟨e2,_⟩:=hok' b _ z2
        rw[ha]at e;cases e
        exact⟨.inl e2,_,e2⟩
    exact⟨rfl,⟨fun b o e=>(step b o e).1,fun b o e=>(step b o e).2⟩,os,bare⟩
 cases hk:K.lookup a with
 |some o=>
  have e:=KX a o hk
  rw[ha]at e
  cases e
  exact main none (.inl rfl) (.inr ⟨_,vs.toArray,_,hk,rfl,rfl,rfl,by rw[n4,lenV];exact hl,by simpa using rv⟩)
 |none=>exact main _ (.inr ⟨rfl,hk⟩) (.inl (.inr ⟨_,Cr tabA⟩))
end
theorem Ex{l:OpenLaw}{n:Nat}{d:DefRec}{K:Params→Frag}{CX:World→DF}{sp:World→Sp}
  (hn:l.most=some n) (hn2:n≤sizeLine) (hdf:d.params.defaults=[]) (hr:Room k callerA)
  (hY:∀(w:World) (h:Heap),YP w h→(K w.params).In h∧AY (K w.params) h)
  (F:∀(w:World) (mg:Str→Option Value) (fa:Addr) (h:Heap),(K w.params).In h→h.Ns mainGlobals mg→mg d.name=some (.ref fa)→
   ∃fd:FuncData,(∀(s:Shared) (u:Value),BindsTo s fd ⟨[u],[]⟩ [(x,u)])∧
    ∀base:Heap,(K w.params).In base→base.Ns mainGlobals mg→FnOk l.prog w (K w.params) mg base (CX w) k fa fd [x] (sp w))
  (hsp:∀(w:World) (H:Hp) (a:Addr) (ns:List Int),ns.length≤n→SqL (K w.params) H a (ns.map V.int)→sp w [.ref a] H (fun v _=>v=.bl true) fun _ _ _=>False)
  (hCX:∀(w:World) (H:Hp) (s:Shared) (e:Value) (s':Shared),CX w [] H s (fun _ _ _=>False) e s'→False):
  PySem.W.WalkO q loose XP YP l.row.toRowW d [] (fun f vs=>PySem.call f vs):=by
 refine Att.wy hn hdf fun w s₀ s₁ mg mb fa o pm cd doc a vs ns G Y ho hd hcd hmg hobj hints hlen hg=>?_
 obtain⟨KX,KT⟩:=hY w _ Y
 obtain⟨fd,hb,hF⟩:=F w mg fa _ KX G.T.g hmg
 exact GY KX G.T.g G.T.b G.T.builtins G.T.nolimit hg G.T.bmain KT hobj hints (jS hlen hn2) hr hF hb (fun H hS=>hsp w H a ns hlen hS) fun H e s'=>hCX w H s₁ e s'
end L2
namespace PL
open PySem PySem.Spec PyProof.Rows L2 Nh PySem.W PySem.Calls Builtin Builtin.ObjectAttr Builtin.Getset_descriptor
structure ExCls (K:Frag) (C:Addr):Prop where
 cls:∃cd,clsIn K C=some cd
 ga:findIn K (.ref C) "__getattribute__"=some (some (.builtin "BaseException.__getattribute__"))
 gt:findIn K (.ref C) "__getattr__"=some none
 ca:findIn K (.ref C) "__class__"=some (some (.builtin "object.__class__"))
 mb:mroIn K C (.type "BaseException")=some true
 mo:mroIn K C (.type "object")=some true
section
variable {K:Frag} {a C:Addr} {M:Model} {h:Heap}
theorem o9(p:jX a C h):Looks M h (typeOf (.ref a)) (.ref C):=by
 obtain⟨o,h1,h2⟩:=p
 exact h2▸(Looks.ld h1).andThen .now
theorem GZ{prog:Program}{w:World}{A:Around}{R:Result→Shared→Prop}{s:Shared}{tp:Value}(Z:ExCls K C)(X:K.In s.heap)(I:jX a C s.heap)(h:R (.ok (.ret (.ref C))) s):
  codeAny (model prog w) A (.call (.builtin "getset_descriptor.__get__") ⟨[.builtin "object.__class__",.ref a,tp],[]⟩) R s:=by
 obtain⟨hh,g,dr,t,os⟩:=s
 have L0:=o9 (M:=model prog w) I
 have L1:=looks_mroIn (M:=model prog w) X Z.mo
 refine codeAny_call_builtin KF.slot_gs.plain KF.entry_gs (KF.slot_gs.check _ _ _ _ _ _ _ _ KF.type_class (KF.args_gs _ _ _) ?_)
 unfold Builtin.«getset_descriptor.__get__» descrGet
 rw[dga_obj]
 refine zz0 (zz1 ?_)
 unfold descrGetter descrCheckInstance descrNameAndClass isInstance
 simp only[KF.owner_class]
 repeat lk
 refine⟨Code.quiet_builtin _ (by decide+kernel),codeAny_builtin KF.entry_class ?_⟩
 unfold Builtin.«object.__class__» shownTypeOf
 repeat lk
 exact h
theorem Cs{prog:Program}{w:World}{A:Around}{E:Value→Shared→Prop}{Q:Fin→Shared→Prop}{s:Shared}(Z:ExCls K C)(X:K.In s.heap)(I:jX a C s.heap)(h:Q (.done (.ret (.ref C))) s):
  wpAny (model prog w) A (Builtin.«object.__getattribute__» ⟨[.ref a,.str "__class__" tk],[]⟩) Q E s:=by
 obtain⟨hh,g,dr,t,os⟩:=s
 have L0:=o9 (M:=model prog w) I
 have L1:=looks_findIn (M:=model prog w) X Z.ca
 have hT5:(⟨hh,g,dr,t,os⟩:Shared).TypeIs (.builtin "object.__class__") "getset_descriptor":=F.typeOf_object_class
 have f5:=F.typeOf_object_class
 have f6:=F.slot_gs_get.lookup
 have f7:=F.slot_gs_set.lookup
 repeat (any_goals (first |assumption |with_reducible refine L0.at ?_ |with_reducible refine L1.at ?_ |wp_step))
 refine GZ Z X I ?_
 repeat (any_goals (first |assumption |wp_step))
theorem Ct{A:Around}{E:Value→Shared→Prop}{nameV:Value}{Q:Unit→Shared→Prop}{s:Shared}(Z:ExCls K C)(X:K.In s.heap)(I:jX a C s.heap)(hq:Q () s):wpAny M A (checkBuiltinCall "BaseException.__getattribute__" ⟨[.ref a,nameV],[]⟩) Q E s:=by
 obtain⟨hh,g,dr,t,os⟩:=s
 have L0:=o9 (M:=M) I
 have L1:=looks_mroIn (M:=M) X Z.mb
 have hk:builtinKind "BaseException.__getattribute__"=some .slot:=by decide+kernel
 have hsplit:splitId "BaseException.__getattribute__"=some ("BaseException","__getattribute__"):=by decide+kernel
 have ha:=F.args_bexc_ga (.ref a) nameV
 simp only[checkBuiltinCall,hk,hsplit]
 refine zz0 ?_
 unfold isInstance
 repeat (first |with_reducible refine L0.at ?_ |with_reducible refine L1.at ?_ |wp_step)
 exact hq
theorem Jz{prog:Program}{w:World}{A:Around}{E:Value→Shared→Prop}{s:Shared}{fill expr:Bool}(Z:ExCls K C)(X:K.In s.heap)(I:jX a C s.heap)(hq:Q (.ref C) s):
  wpAny (model prog w) A (getAttrBy (.ref a) (.str "__class__" tk) fill expr) Q E s:=by
 obtain⟨hh,g,dr,t,os⟩:=s
 have L0:=o9 (M:=model prog w) I
 have L1:=looks_findIn (M:=model prog w) X Z.ga
 have L2:=looks_findIn (M:=model prog w) X Z.gt
 have f3:=F.attr_ValueError.ga.bind (.ref a)
 have hx0:(expr&&onTheHeap (Value.builtin "BaseException.__getattribute__"))=false:=by cases expr <;> rfl
 have hx2:(Value.builtin "BaseException.__getattribute__" == Value.builtin "object.__getattribute__")=false:=by decide+kernel
 have hx1:(onTheHeap (Value.ref C)&&Value.builtin "BaseException.__getattribute__" == Value.builtin "object.__getattribute__")=false:=by rw[hx2];rfl
 repeat (any_goals (first |assumption |with_reducible refine L0.at ?_ |with_reducible refine L1.at ?_ |with_reducible refine L2.at ?_ |wp_step))
 refine codeAny_call_builtin F.attr_ValueError.ga.plain F.entry_bexc_ga (Ct Z X I (Cs Z X I ?_))
 repeat (any_goals (first |assumption |wp_step))
theorem Ey{prog:Program}{w:World}{A:Around}{E:Value→Shared→Prop}{Q:Option Value→Shared→Prop}{s:Shared}(Z:ExCls K C)(X:K.In s.heap)(I:jX a C s.heap)(hq:Q (some (.ref C)) {s with toks:=s.toks+1}):
  wpAny (model prog w) A (getAttr? (.ref a) "__class__") Q E s:=by
 obtain⟨hh,g,dr,t,os⟩:=s
 unfold getAttr?
 repeat (any_goals (first |assumption |with_reducible apply Jz (s:=⟨hh,g,dr,t+1,os⟩) Z X I |wp_step))
theorem Ez(Z:ExCls K C):KitX K (.ref a) (.ref C) (jX a C) where
 ty:=fun _ _ _ I=>o9 I
 it:=fun _ _ X _=>by
  obtain⟨cdD,hcD⟩:=Z.cls
  unfold clsIn at hcD
  split at hcD
  ·rename_i c' d' cd' sl' ho
   intro A' Q' E' s' k q
   unfold isType loadHead
   exact zz0 (wpAny_loadPart (k _ _ (X _ _ ho)) (zz1 q))
  ·cases hcD
 ne:=fun h tp dd its n sl X htp=>by
  obtain⟨cdD,hcD⟩:=Z.cls
  refine Bool.eq_false_iff.mpr fun q=>?_
  have e:C=tp:=Value.ref.inj (beq_iff_eq.mp q)
  subst e
  unfold clsIn at hcD
  split at hcD
  ·rename_i c' d' cd' sl' ho
   have z:=(X _ _ ho).symm.trans htp
   cases z
  ·cases hcD
 ca:=fun X I k=>Ey Z X I k
end
end PL
namespace PL
open PySem PySem.Spec PyProof.Rows L2 Nh
structure UnB (fs:List Addr) (H H':Hp) (h B h':Heap):Prop where
 keep:∀b o,h.get? b=some o→H b=none→b∉fs→B.get? b=some o
 slot:∀b o,h.get? b=some o→H b=none→b∈fs→∃sl,h'.get? b=some {o with slots:=sl}
 free:∀b o,h.get? b=some o→H b=none→H' b=none
 there:∀b o,h.get? b=some o→b∉fs→∃o',B.get? b=some o'
 tups:∀b xs,H b=some (.tup xs)→H' b=some (.tup xs)
 frzs:∀b o u,H b=some (.frz o u)→H' b=some (.frz o u)
 tbls:∀b ps,H b=some (.tbl ps)→H' b=some (.tbl ps)
theorem UnB.un{fs:List Addr}{H:Hp}{B:Heap}(u:UnB fs H H' h B h')(st:B.StaysIn h')(hf:∀b∈fs,H b=none):Un fs [] H H' h h':=
 ⟨fun b o e n hb _=>st b o (u.keep b o e n hb),fun b o e n hb _=>u.slot b o e n hb,fun b o e n _=>u.free b o e n,fun b o e _=>by
  by_cases hb:b∈fs
  ·obtain⟨sl,z⟩:=u.slot b o e (hf b hb) hb
   exact⟨_,z⟩
  ·obtain⟨o',z⟩:=u.there b o e hb
   exact⟨o',st b o' z⟩,u.tups,u.frzs,u.tbls⟩
theorem UnB.on{l:List Env}{H:Hp}{B h2:Heap}(u:UnB (qy l) H H' h B h')(ff:h'.FunFrames B l)(k:h'.UpToSlots h2):UnB (qy l) H H' h B h2:=
 ⟨u.keep,fun b o e n hb=>by
  obtain⟨sl,z⟩:=u.slot b o e n hb
  obtain⟨_,o',ho',hd⟩:=ff.mem hb
  rw[z]at ho'
  cases ho'
  obtain⟨sl2,z2⟩:=k b _ z hd
  exact⟨sl2,z2⟩,u.free,u.there,u.tups,u.frzs,u.tbls⟩
theorem UnB.out{σ:L2.St}{H:Hp}{s:Shared}{B:Heap}(I:Inv X pins σ H s)(hx:X.ex=[])(u:UnB (qy X.stack) H H' s.heap B h'):UnB X.fs X.H₀ H' X.s₀.heap B h':=by
 have nx:∀b:Addr,b∉X.ex:=fun b z=>by rw[hx]at z;cases z
 have ne:∀b o,X.s₀.heap.get? b=some o→b≠X.env.locals:=fun b o e=>jE (nZ (iC e) I.ok.above)
 have nf:∀b o,X.s₀.heap.get? b=some o→b∉X.fs→b∉qy X.stack:=fun b o e hb z=>(Zap.mp (I.stkSub b z)).elim (ne b o e) hb
 refine⟨fun b o e n hb=>u.keep b o (I.base.keep b o e n hb (nx b)) (I.base.free b o e n (nx b)) (nf b o e hb),fun b o e n hb=>?_,fun b o e n=>?_,fun b o e hb=>?_,fun b xs e=>u.tups b xs (I.base.tups b xs e),fun b o v e=>u.frzs b o v (I.base.frzs b o v e),fun b ps e=>u.tbls b ps (I.base.tbls b ps e)⟩
 ·obtain⟨sl,z⟩:=I.base.slot b o e n hb (nx b)
  have hb':b∈qy X.stack:=by
   rcases I.ok.stk with q |⟨q,hf⟩
   ·rw[q];exact hb
   ·rw[q];unfold qy;rw[List.filterMap_cons,hf];exact gN _ hb
  obtain⟨sl2,z2⟩:=u.slot b _ z (I.base.free b o e n (nx b)) hb'
  exact⟨sl2,z2⟩
 ·obtain⟨o',z⟩:=I.base.there b o e (nx b)
  exact u.free b o' z (I.base.free b o e n (nx b))
 ·obtain⟨o',z⟩:=I.base.there b o e (nx b)
  exact u.there b o' z (nf b o e hb)
theorem wZ{w:World}{H:Hp}(x:ObjOk P w H h a o):∃u,h.get? a=some u:=by
 cases o with
 |lst xs=>obtain⟨_,_,_,_,e⟩:=x;exact⟨_,e⟩
 |tup xs=>obtain⟨_,_,_,o,e,_⟩:=x;exact⟨_,e⟩
 |dK kvs=>obtain⟨_,_,_,_,o,_,_,e,_⟩:=x;exact⟨_,e⟩
 |dT kvs=>obtain⟨_,_,_,_,o,_,_,e,_⟩:=x;exact⟨_,e⟩
 |set S n=>obtain⟨o,_,_,_,e,_⟩:=x;exact⟨_,e⟩
 |ins C dx fs=>obtain⟨_,_,_,e,_⟩:=x;exact⟨_,e⟩
 |own y=>obtain⟨_,e⟩:=x;exact⟨_,e⟩
 |xd fs=>obtain⟨_,⟨_,_,_,e,_⟩,_⟩:=x;exact⟨_,e⟩
 |rng lo hi=>obtain⟨_,_,_,e⟩:=x;exact⟨_,e⟩
 |frz ob u=>obtain⟨e,_⟩:=x;exact⟨_,e⟩
 |tbl q=>obtain⟨_,e,_⟩:=x;exact⟨_,e⟩
 |met f y=>exact⟨_,(show h.get? a=some _ from x)⟩
 |ext φ=>obtain⟨_,⟨_,e⟩,_⟩:=x;exact⟨_,e⟩
def Ie(P:Program)(w:World):DF:=fun outer H s E e s'=>∃H' ea C a0 B,e=.ref ea∧E (.ref C) none H'∧s'.os=s.os∧AllBare s'.gens∧Heap.FlyingW B outer ea (.ref C) a0 s'.heap∧HOk P w H' B∧UnB (qy outer) H H' s.heap B s'.heap
def EA(X:Cx)(C:Addr)(pins:List (Addr×Obj))(σ:L2.St)(H:Hp):Prop:=∀s h' ea vs,Inv X pins σ H s→Heap.MadeExcOf s.heap h' ea (.ref C) vs→X.xe (.ref ea) {s with heap:=h'}
def G0(X:Cx)(C:Addr)(pins:List (Addr×Obj))(σ:L2.St)(H':Hp):Prop:=∀H s ea s' a0 B,Inv X pins σ H s→s'.os=s.os→AllBare s'.gens→Heap.FlyingW B X.stack ea (.ref C) a0 s'.heap→HOk X.prog X.w H' B→UnB (qy X.stack) H H' s.heap B s'.heap→X.xe (.ref ea) s'
def EB(X:Cx)(C:Addr)(pins:List (Addr×Obj))(σ:L2.St)(H':Hp):Prop:=∀H s ea s' a0 B,Inv X pins σ H s→s'.os=s.os→AllBare s'.gens→Heap.HeldW B X.stack ea (.ref C) a0 X.env.locals s'.heap→HOk X.prog X.w H' B→UnB (qy X.stack) H H' s.heap B s'.heap→X.xe (.ref ea) s'
theorem w5{M:Model}{A:Around}{E:Value→Shared→Prop}{s:Shared}{base:Heap}{env:Env}{outer:List Env}{L e:Addr}{cls a0:Value}{Q:Unit→Shared→Prop}(hf:env.frame=some L)(hh:Heap.HeldW base (env::outer) e cls a0 L s.heap)
  (hQ:∀h',Heap.FlyingW base outer e cls a0 h'→s.heap.UpToSlots h'→Q () {s with heap:=h'}):wpAny M A (leaving env (.ref e)) Q E s:=by
 unfold leaving
 refine zz0 (wpAny_noteFrame_againW hf hh.2.2.2 ?_)
 refine wpAny_landsW hh fun h' hfl k=>?_
 obtain⟨k1,k2,⟨_,_,k3⟩,k4⟩:=hfl
 exact hQ h' ⟨k1,k2,k3,k4⟩ k
section
variable {P:Program} {w:World} {K:Frag} {mg:Str→Option Value} {base:Heap} {N:List Str} {qual:Str} {scope:Scope} {f:Addr} {cd:Value} {A:Around} {outer:List Env} {s:Shared} {H H':Hp} {E:XK} {C:Addr} {pins:List (Addr×Obj)} {σ:L2.St}
theorem G1(hE:E (.ref C) none H'):EA (kl (Ie P w) P w K mg base N qual scope f cd A outer s H E) C pins σ H':=by
 intro s1 h' ea vs I hx
 show wpAny (model P w) _ (leaving _ (.ref ea)) _ _ _
 have st:=I.stack
 have hin:∀env∈(kl (Ie P w) P w K mg base N qual scope f cd A outer s H E).stack,∀b,env.frame=some b→b∈qy (kl (Ie P w) P w K mg base N qual scope f cd A outer s H E).stack:=fun env he b hb=>List.mem_filterMap.mpr ⟨env,he,hb⟩
 refine wpAny_leaves_madeW (base:=PySem.W.hideAll s1.heap (qy (kl (Ie P w) P w K mg base N qual scope f cd A outer s H E).stack)) (h:=s1.heap) I.ok.frames rfl (fun b o q=>PySem.W.of_hideAll _ q) (PySem.W.funFrames_hide st hin) hx fun h2 t x1 x2 x3 x4=>?_
 refine⟨H',ea,C,_,_,rfl,hE,I.os,I.bare,x1,fun a o e=>?_,?_⟩
 ·refine(I.hok a o e).stay (fun b u hb q=>hideAll_get _ q fun z=>?_) (fun _ q=>q) fun _ _ q=>q
  have n:=I.stkFree b z
  rcases hb with rfl |hb
  ·rw[n]at e;cases e
  ·rw[n]at hb;cases hb
 ·refine UnB.out I rfl ⟨fun b o e n hb=>hideAll_get _ e hb,fun b o e n hb=>?_,fun _ _ _ n=>n,fun b o e hb=>⟨o,hideAll_get _ e hb⟩,fun _ _ e=>e,fun _ _ _ e=>e,fun _ _ e=>e⟩
  obtain⟨_,o',ho',hd⟩:=st.mem hb
  rw[e]at ho'
  cases ho'
  exact x4 b o (hx.keeps b o e) hd
theorem JA(hE:E (.ref C) none H'):G0 (kl (Ie P w) P w K mg base N qual scope f cd A outer s H E) C pins σ H':=by
 intro H1 s1 ea s' a0 B I os bare fl hok u
 show wpAny (model P w) _ (leaving _ (.ref ea)) _ _ _
 refine wpAny_leaves_onW I.ok.frames rfl fl fun h2 x1 x2=>?_
 exact⟨H',ea,C,a0,B,rfl,hE,os.trans I.os,bare,x1,hok,UnB.out I rfl (u.on fl.2.2.1 x2)⟩
theorem G2(hE:E (.ref C) none H'):EB (kl (Ie P w) P w K mg base N qual scope f cd A outer s H E) C pins σ H':=by
 intro H1 s1 ea s' a0 B I os bare fl hok u
 show wpAny (model P w) _ (leaving _ (.ref ea)) _ _ _
 refine w5 rfl fl fun h2 x1 x2=>?_
 exact⟨H',ea,C,a0,B,rfl,hE,os.trans I.os,bare,x1,hok,UnB.out I rfl (u.on fl.2.2.1 x2)⟩
end
abbrev Dr:=List Sl→Option (Str×List Sl)
def L3(X:Cx)(mk al:Bool)(body:List Stmt)(r:Dr):Prop:=∀pins s σ H B E n E',Inv X pins σ H s→Frm X.K B σ H E [] []→r E=some (n,E')→
 (∀pins',(al=false→pins'=pins)→∀σ' C H',nsIn X.K mainGlobals n=some (some (.ref C))→Frm X.K B σ' H' E' [] []→(mk=true→EA X C pins' σ' H')∧G0 X C pins' σ' H'∧(al=true→EB X C pins' σ' H'))→wpAny (model X.prog X.w) X.A (execs body X.env) (fun _ _=>False) X.xe s
def RX(X:Cx)(mk al:Bool)(st:Stmt)(r:Dr):Prop:=∀pins s σ H B E n E',Inv X pins σ H s→Frm X.K B σ H E [] []→r E=some (n,E')→
 (∀pins',(al=false→pins'=pins)→∀σ' C H',nsIn X.K mainGlobals n=some (some (.ref C))→Frm X.K B σ' H' E' [] []→(mk=true→EA X C pins' σ' H')∧G0 X C pins' σ' H'∧(al=true→EB X C pins' σ' H'))→wpAny (model X.prog X.w) X.A (exec st X.env) (fun _ _=>False) X.xe s
def Ll(t:lq)(r:Dr):Dr:=fun E=>match t E with
 |some (true,E')=>r E'
 |_=>none
def AZ(n:Str):Dr:=fun E=>some (n,E)
section
variable {X:Cx} {mk al:Bool} {st:Stmt} {dv a b:List Stmt} {g:bX} {r:Dr} {c:Expr} {m:Bool} {t:lq} {pos:Pos}
theorem vI(h:RX X mk al st r):L3 X mk al (st::dv) r:=fun pins s σ H B E n E' I fr e k=>
 wpAny_execs_cons (zz2 (h pins s σ H B E n E' I fr e k) (fun _ _ z=>z.elim) fun _ _ z=>z)
theorem Lm(hc:TX X.nox c m t)(h:L3 X mk al a r):RX X mk al (.If c a b pos) (Ll t r):=fun pins s σ H B E n E' I fr e k=>by
 unfold Ll at e
 split at e
 ·rename_i E1 et
  have q:=hc pins s σ H (fun bb H1=>bb=true∧Frm X.K B σ H1 E1 [] []) (I.wish _) ⟨B,E,[],[],true,E1,fr,fun _=>Calm.nil rfl,et,fun H1 f=>⟨rfl,f⟩⟩
  refine wpAny_If (zz2 q (fun bb s1 z=>?_) fun _ _ z=>z.elim)
  obtain⟨H1,I1,rfl,fr1⟩:=z
  exact h pins s1 σ H1 B E1 n E' I1.unwish fr1 e k
 ·cases e
end
end PL
namespace PL
open PySem PySem.Spec PyProof.Rows L2 Nh
abbrev Nr:List Value:=[.type "ValueError",.type "Exception",.type "BaseException",.type "object"]
structure XC (K:Frag) (mg:Str→Option Value) (x:Str) (C:Addr):Prop where
 ns:nsIn K mainGlobals x=some (some (.ref C))
 mg:mg x=some (.ref C)
 ex:excIn K C Nr "ValueError.__new__"=true
 cls:ExCls K C
theorem JB{K:Frag}{mg:Str→Option Value}{bmB:List Value}{newId:String}(X:K.In h)(m:mg x=some (.ref C))(q:excIn K C bmB newId=true):OwnCls x C bmB newId mg h:=by
 refine⟨m,?_⟩
 unfold excIn at q
 split at q
 ·rename_i dd cd sl ho
  split at q
  ·rename_i C' bm k0 k1 k2 k3 n k5 hm hs
   simp only[yQ,beq_iff_eq,BO]at q
   obtain⟨⟨⟨⟨⟨rfl,rfl⟩,hdel⟩,ht⟩,hok⟩,hni⟩:=q
   obtain⟨nm,bs,mro,ns,qn,hd,sn,sub,ab,col,del⟩:=cd
   dsimp only at hm hdel hok hni
   subst hm hdel
   have hsl:sl=#[k0,k1,k2,k3,some (.builtin n),k5]:=by
    obtain⟨l⟩:=sl
    simp only at hs
    rw[hs]
   subst hsl
   exact⟨bm,ns,nm,qn,bs,hd,sn,sub,ab,col,dd,k0,k1,k2,k3,k5,_,X _ _ ho,.of_isNs (PySem.W.isNs_of_in X hok),PySem.W.nsMap_none_of_in X hok hni,PySem.W.tail_of_in X ht⟩
  ·cases q
 ·cases q
section
variable {X:Cx} {mk al:Bool} {x:Str} {C:Addr} {np p cpos pos:Pos}
theorem EC{tx:Str}  (hcalm:X.calm=true) (hg:Gl X x) (Z:XC X.K X.mg x C) (hd:(x == ("__debug__":Str))=false:=by decide)
  (he:starEach [.Constant (.str tx) j p] X.env=[(false,eval (.Constant (.str tx) j p) X.env)]:=by rfl):
  RX X true al (.Raise (some (.Call (.Name x np) [.Constant (.str tx) j p] [] cpos)) none pos) (AZ x):=fun pins s σ H B E n E' I fr e k=>by
 cases e
 obtain⟨tl,N,nm,q,bs,hdct,sn,sub,ab,col,dd,k0,k1,k2,k3,k5,mN,hC,hN,hni,T⟩:=(JB I.ok.mod.kin Z.mg Z.ex).obj
 refine wpAny_Raise_call_subT (C:=C) (nm:=nm) (q:=q) (N:=N) (bs:=bs) (bm:=tl) (hdct:=hdct) (sn:=sn) (sub:=sub) (ab:=ab) (col:=col) (dd:=dd) (k0:=k0) (k1:=k1) (k2:=k2) (k3:=k3) (k5:=k5)
  PySem.F.excBase_ValueError (mN:=mN) (T.hasType PySem.F.excBase_ValueError.hasBase) (I.ok.hd hcalm) (by rw[he];rfl) hni (lZ I hg Z.mg ⟨rfl,?_⟩ hd)
 have q1:=cw (X:=X) (yY (x:=tx) (j:=j) (pos:=p)) eY he cpos pins s σ H (fun vs H1=>vs=[.str tx]∧H1=H) I ⟨rfl,rfl⟩
 rw[he]at q1 ⊢
 refine Calls.evalArgs_plain (fA q1 fun vs s2 ⟨us,H2,I2,r,eu,eH⟩=>?_)
 subst eu eH
 have fin:=(k pins (fun _=>rfl) σ C H2 Z.ns fr).1 rfl
 exact⟨rfl,by rw[←r.length];exact Nat.le_of_ble_eq_true rfl,I2.bk _ _ hC,hN.keeps I2.bk,T.keeps I2.bk,fun h' ea hm=>fin s2 h' ea vs I2 hm⟩
end
def L4(K:Frag)(r:List PyData→Option Str):Sp:=fun vs H _ E=>∃ds n,r ds=some n∧RpA K H vs ds∧∀C H',nsIn K mainGlobals n=some (some (.ref C))→Same H H'→E (.ref C) none H'
structure OwnR (P:Program) (w:World) (K:Frag) (mg:Str→Option Value) (base:Heap) (k:Nat) (x:Str) (ps:List Str) (sp:Sp):Prop where
 ex:∃(f:Addr) (fd:FuncData),FnOk P w K mg base (Ie P w) k f fd ps sp∧Binds K fd ps []∧mg x=some (.ref f)∧keepIn K (.ref f)=true
def r_(r:List PyData→Option Str)(g:rB):Dr:=fun E=>(g E).bind fun a=>(dZ a.2 a.1).bind fun ds=>(r ds).map fun n=>(n,a.2)
section
variable {X:Cx} {k:Nat} {x:Str} {ps:List Str} {r:List PyData→Option Str} {p pos cpos:Pos} {e:Expr} {es:List Expr} {m:Bool} {g:rB}
theorem Cu(D:OwnR X.prog X.w X.K X.mg X.base k x ps (L4 X.K r)) (hr:Room k X.A) (hg:Gl X x) (ha:AX X.nox (e::es) m g) (hdb:(x == ("__debug__":Str))=false) (he:starEach (e::es) X.env=(false,eval e X.env)::starEach es X.env) (hpl:(backTo pos (starEach es X.env)).any (·.1)=false)
   {s:Shared} {σ:L2.St} {H B:Hp} {E':List Sl} {n:Str} (I:Inv X pins σ H s) (fr:Frm X.K B σ H E [] []) (ee:r_ r g E=some (n,E')) (k:∀C H',nsIn X.K mainGlobals n=some (some (.ref C))→Frm X.K B σ H' E' [] []→G0 X C pins σ H'):
  wpAny (model X.prog X.w) X.A (eval (.Call (.Name x p) (e::es) [] pos) X.env) (fun _ _=>False) X.xe s:=by
 obtain⟨f,fd,F,b,mx,kp⟩:=D.ex
 obtain⟨⟨rs,E1⟩,e1,ee⟩:=Za.mp ee
 obtain⟨ds,e2,ee⟩:=Za.mp ee
 obtain⟨n',e3,ee⟩:=Zad.mp ee
 cases ee
 refine zz6 (lZ I hg mx ?_ hdb)
 have q1:=ha pos pins s σ H (fun vs H1=>vs.length=rs.length∧Frm X.K B σ H1 E1 (vs.reverse++[]) (rs.reverse++[])) (I.wish _) ⟨B,E,[],[],rs,E1,fr,fun _=>Calm.nil rfl,e1,fun vs H1 hl f=>⟨hl,f⟩⟩
 refine callWith_K (h₀:=X.base) I.ok.mod.kin kp (zz2 q1 (fun us s1 ⟨vs,H1,I1,rv,hl,F1,A1,fr1⟩=>⟨I1.kIn,?_⟩) fun _ _ z=>z.elim) he hpl
 have I1:=I1.unwish
 obtain⟨r1,A',fr2⟩:=fr1.looks hl e2
 have hlen:(us++[]).length=ps.length:=by
  rw[oS,←rv.length]
  exact F.len vs H1 (fun _ _=>False) (fun _ _ _=>True) ⟨ds,n,e3,r1,fun _ _ _ _=>trivial⟩
 have bd:=b s1 us I1.kIn hlen
 rw[oS]at bd
 refine wpAny_call (codeAny_mono (F.run X.A X.stack s1 H1 ⟨us,[]⟩ us vs (fun _ _=>False) (fun c _ H'=>∃C,c=.ref C∧nsIn X.K mainGlobals n=some (some (.ref C))∧Same H1 H') hr I1.env0 bd rv ⟨ds,n,e3,r1,fun C H' z g=>⟨C,rfl,z,g⟩⟩) fun rr s' hq=>?_)
 cases rr with
 |error er=>
  obtain⟨H',ea,C,a0,B',rfl,⟨C',eC,ns,g⟩,os,bare,fl,hok,u⟩:=hq
  cases eC
  exact k C H' ns ⟨_,_,fr2.grow g⟩ H1 s1 ea s' a0 B' I1 os bare fl hok u
 |ok fl=>
  cases fl with
  |ret u=>obtain⟨_,_,_,_,_,_,_,z⟩:=hq;exact z
  |next=>exact False.elim hq
  |brk=>exact False.elim hq
  |cont=>exact False.elim hq
theorem JC{y:Str}  (D:OwnR X.prog X.w X.K X.mg X.base k x ps (L4 X.K r)) (hr:Room k X.A) (hg:Gl X x) (ha:AX X.nox (e::es) m g) (hs:swapsWith (.Call (.Name x p) (e::es) [] cpos) (some (.Name y pos')) pos.line X.env=pure false:=by rfl) (hdb:(x == ("__debug__":Str))=false:=by decide) (he:starEach (e::es) X.env=(false,eval e X.env)::starEach es X.env:=by rfl) (hpl:(backTo cpos (starEach es X.env)).any (·.1)=false:=by rfl) {mk al:Bool}:
  RX X mk al (.Assign [.Name y pos'] (.Call (.Name x p) (e::es) [] cpos) pos) (r_ r g):=fun pins s σ H B E n E' I fr ee k=>
 wpAny_Assign_Name (fA (Cu D hr hg ha hdb he hpl I fr ee fun C H' z f=>(k pins (fun _=>rfl) σ C H' z f).2.1) fun _ _ z=>z.elim) hs
end
def Ko(k n:Nat)(r:Dr):List PyData→Option Str:=fun ds=>if ds.length=k then (r (eZ n ds)).map (·.1)else none
theorem MH{w:World}{K:Frag}{mg:Str→Option Value}{base:Heap}{N:List Str}{a n:Nat}{r:Dr}{mk al:Bool}(D:Def K mg x st ps)(S:FnScope N ps (aq st))(hpa:ps.length=a)(hNn:N.length=n)(hps:a≤n)
  (hbody:∀(f:Addr) (cdv:Value) (A:Around) (outer:List Env) (s:Shared) (H:Hp) (E:XK),Room k (A.deeper (PyProof.Rows.envOfC x (aq st) s.heap.objs.size f cdv))→
   L3 (kl (Ie P w) P w K mg base N x (aq st) f cdv A outer s H E) mk al (bI st) r):OwnR P w K mg base (k+1) x ps (L4 K (Ko a n r)):=by
 subst hpa hNn
 obtain⟨f,fd,F,mx,b⟩:=D.ex
 have kp:=F.kp
 obtain⟨oc,od,kV,doc,pm,an,cdv,ct,osl,rfl,lk,hcd⟩:=F.ex
 refine⟨f,_,DH lk hcd S (fun vs H Q E h=>?_) fun A outer s H vs Q E hr h=>?_,b,mx,kp⟩
 ·obtain⟨ds,n,e,rp,_⟩:=h
  unfold Ko at e
  split at e
  ·rename_i hl
   rw[rp.len];exact hl
  ·cases e
 obtain⟨ds,n,e,rp,q⟩:=h
 unfold Ko at e
 split at e
 ·rename_i hl
  obtain⟨⟨n',E'⟩,er,z⟩:=Zad.mp e
  cases z
  refine⟨fun D σ H'=>σ=iL N vs∧H'=H,fun pins s1 σ H1 D I z=>?_,rfl,rfl⟩
  obtain⟨rfl,rfl⟩:=z
  refine fA (hbody f cdv A outer s H1 E hr pins s1 _ H1 H1 (eZ N.length ds) n' E' I ⟨H1,[],om rp (by omega)⟩ er fun _ _ σ' C H' ns ⟨F',A',fr'⟩=>?_) fun _ _ z=>z.elim
  have hE:=q C H' ns (fr'.bf.trans fr'.fh)
  exact⟨fun _=>G1 hE,JA hE,fun _=>G2 hE⟩
 ·cases e
end PL
namespace PL
open PySem PySem.Spec PyProof.Rows L2 Nh
abbrev hX(X:Cx)(ea:Addr):Cx:={X with A:=X.A.mark (some (.ref ea)),calm:=false,xe:=fun _ _=>False}
section
variable {X:Cx} {pins:List (Addr×Obj)} {σ:L2.St} {H:Hp} {s:Shared} {ea:Addr}
theorem A8(I:Inv X pins σ H s):Inv (hX X ea) pins σ H s:=
 let ok:=I.ok
 ⟨⟨ok.mod,ok.kind,ok.glob,ok.blt,ok.above,ok.inj,ok.has,ok.cab,fun z=>(nomatch z),ok.frames,ok.stk,ok.exf,ok.bs,ok.bsz,ok.noex,ok.exfs,ok.funs,ok.frf,ok.tab⟩,I.os,I.bare,I.base,I.loc,I.cell,I.free,I.freeC,I.pin,I.hok,I.len⟩
theorem ED(I:Inv (hX X ea) pins σ H s)(ok:X.Ok):Inv X pins σ H s:=⟨ok,I.os,I.bare,I.base,I.loc,I.cell,I.free,I.freeC,I.pin,I.hok,I.len⟩
theorem Cv(I:Inv X pins σ H s)(hn:H a=none)(h0:X.s₀.heap.get? a=none)(hL:X.env.locals≠a)(hc:∀x c,X.env.cells.lookup x=some c→c≠a)(hp:∀p∈X.pn++pins,p.1≠a)(ok:ObjOk X.prog X.w (fg H a o) s.heap a o):Inv X pins σ (fg H a o) s:=by
 have ne:∀b u,H b=some u→b≠a:=fun b u e=>bN e hn
 refine⟨I.ok,I.os,I.bare,⟨I.base.keep,I.base.slot,fun b u e n hx=>?_,I.base.there,fun b xs e=>?_,fun b u v e=>?_,fun b q e=>?_⟩,I.loc,I.cell,?_,fun x c e=>?_,fun p q=>?_,fun b u e=>?_,I.len⟩
 ·rw[aM (fun z=>by rw[z,h0]at e;cases e)];exact I.base.free b u e n hx
 ·have z:=I.base.tups b xs e
  rw[aM (ne _ _ z)];exact z
 ·have z:=I.base.frzs b u v e
  rw[aM (ne _ _ z)];exact z
 ·have z:=I.base.tbls b q e
  rw[aM (ne _ _ z)];exact z
 ·rw[aM hL];exact I.free
 ·rw[aM (hc x c e)];exact I.freeC x c e
 ·obtain⟨e1,e2,e3⟩:=I.pin p q
  exact⟨e1,by rw[aM (hp p q)];exact e2,e3⟩
 ·by_cases hb:b=a
  ·subst hb;rw[ce]at e;cases e;exact ok
  ·rw[aM hb]at e
   refine(I.hok b u e).stay (fun c w' _ q=>q) (fun c q=>?_) fun c xs q=>?_
   ·rw[aM (ne _ _ q)];exact q
   ·rw[aM (ne _ _ q)];exact q
theorem EE{M:Model}{A:Around}{E:Value→Shared→Prop}{i:Nat}{pos:Pos}{Q:Unit→Shared→Prop}(I:Inv X pins σ H s)(hN:X.N.Nodup)(hi:X.N[i]? =some x)(hk:X.env.scope.names.lookup x=some .local)
  (h:∀s',Inv X pins (σ.set i none) H s'→Q () s'):wpAny M A (do bindName X.env x .none;unbindBehindTheSuite X.env x pos) Q E s:=by
 obtain⟨m,hn,hl⟩:=id I.loc
 have hcls:(X.env.scope.kind ==.class||(X.env.scope.kind ==.module&&X.env.locals != X.env.globals))=false:=by rw[I.ok.kind];rfl
 have hiσ:i < σ.length:=by rw[I.len];exact(Zbi.mp hi).1
 have cne:=I.cne
 refine wpAny_nameGoes_keeps hk hn hcls fun h' v hn' hs=>?_
 obtain⟨oL,_,_,hoL,_⟩:=id hn
 refine h _ ⟨I.ok,I.os,I.bare,⟨fun b o e n hb hx=>?_,fun b o e n hb hx=>?_,I.base.free,fun b o e hx=>?_,I.base.tups,I.base.frzs,I.base.tbls⟩,⟨_,hn',fun j y v' e1 e2 e3=>?_⟩,fun y c e=>?_,I.free,I.freeC,fun p hp=>?_,fun b ob e=>?_,by simpa using I.len⟩
 ·exact(hs.2 b (jE (nZ (iC e) I.ok.above))).trans (I.base.keep b o e n hb hx)
 ·obtain⟨sl,e1⟩:=I.base.slot b o e n hb hx
  exact⟨sl,(hs.2 b (jE (nZ (iC e) I.ok.above))).trans e1⟩
 ·obtain⟨o',e1⟩:=I.base.there b o e hx
  exact⟨o',(hs.2 b (jE (nZ (iC e) I.ok.above))).trans e1⟩
 ·by_cases hj:j=i
  ·subst hj
   rw[List.getElem?_set_self hiσ]at e2
   cases e2
  ·rw[List.getElem?_set_ne (Ne.symm hj)]at e2
   obtain⟨u',r',q⟩:=hl j y v' e1 e2 e3
   refine⟨u',r',?_⟩
   rcases q with⟨k,e⟩ |⟨k,c,e,z⟩
   ·refine .inl ⟨k,?_⟩
    have:y≠x:=fun e=>hj (q_ hN e1 (e▸hi))
    simp[this,e]
   ·exact .inr ⟨k,c,e,z.sameBut hs (cne y c e)⟩
 ·obtain⟨w',z⟩:=I.cell y c e
  exact⟨w',z.sameBut hs (cne y c e)⟩
 ·obtain⟨e,n,ne,nf,d⟩:=I.pin p hp
  exact⟨(hs.2 p.1 ne).trans e,n,ne,nf,d⟩
 ·refine(I.hok b ob e).stay (fun c w' hc q=>(hs.2 c ?_).trans q) (fun _ q=>q) fun _ _ q=>q
  rintro rfl
  rcases hc with rfl |hc
  ·rw[I.free]at e;cases e
  ·rw[I.free]at hc;cases hc
end
abbrev Cw(n:Str):PyData:=.dict [(.none,.str n)]
def EF(ok:List Str)(i:Nat)(r:Dr)(g h:bX):bX:=fun E=>match r E with
 |none=>g E
 |some (n,E')=>if n∈ok∧i < E'.length then match h (E'.set i (.sh (Cw n)))with
  |some (E2,.rt s)=>some (E2,.rt s)
  |_=>none
  else none
theorem G3{cn en:Str}{CH:Addr}{np hpos pos:Pos}{b₀:Stmt}{suite:List Stmt}{ok:List Str}{i:Nat}{r:Dr}{g hs:bX}(hx:X.xe=fun _ _=>False)(hN:X.N.Nodup)(hex:X.ex=[])(hst:X.stack=X.env::X.outer)(hfr:X.env.frame=some X.env.locals)(hg:Gl X cn)(hm:X.mg cn=some (.ref CH))
  (hok:∀n∈ok,∀C,nsIn X.K mainGlobals n=some (some (.ref C))→exmOne X.K (.ref C) (.ref CH)=some true) (hb:AK X body g) (hr:∀W,L3 (X.wish W) false false body r) (hh:∀ea,AK (hX X ea) (b₀::suite) hs)
  (hi:X.N[i]? =some en:=by rfl) (hk:X.env.scope.names.lookup en=some .local:=by rfl) (hdb:(cn == ("__debug__":Str))=false:=by decide):
  SX X (.Try body [.ExceptHandler (some (.Name cn np)) (some en) (b₀::suite) hpos] [] [] pos) (EF ok i r g hs):=by
 intro pins s σ H D I hw
 obtain⟨B,E,xs,Xs,E2,fl,fr,cl,e,q⟩:=hw
 subst cl
 have hxs:xs=[]:=by obtain⟨_,_,f⟩:=fr;simpa using f.len
 subst hxs
 unfold EF at e
 split at e
 ·have q:=hb pins s σ H D I ⟨B,E,[],[],E2,fl,fr,rfl,e,q⟩
  rw[hx]at q
  refine wpAny_Try_except (zz2 q (fun f s1 z=>?_) fun _ _ z=>z.elim)
  cases f with
  |next=>exact wpAny_execs_nil z
  |brk=>exact z
  |cont=>exact z
  |ret u=>exact z
 ·rename_i n E' er
  split at e
  rotate_left
  ·cases e
  rename_i hc
  split at e
  rotate_left
  ·cases e
  rename_i E3 sv eh
  cases e
  refine wpAny_Try_except (zz2 (hr (fun e s₁=>wpAny (model X.prog X.w) X.A (noteFrame e X.env) (fun _ s₂=>wpAny (model X.prog X.w) X.A (setFlight e none) (fun _ s₃=>wpAny (model X.prog X.w) X.A (handleBy e X.env [.ExceptHandler (some (.Name cn np)) (some en) (b₀::suite) hpos]) (SP X pins D) X.xe s₃) X.xe s₂) X.xe s₁) pins s σ H B E n E' (I.wish _) fr er fun pp hp σ' C H' ns fr'=>⟨fun z=>(nomatch z),?_,fun z=>(nomatch z)⟩) (fun _ _ z=>z.elim) fun _ _ z=>z)
  cases hp rfl
  intro H1 s1 ea s' a0 Bb I1 os bare fly hokB u
  have I1:Inv X pins σ' H1 s1:=I1.unwish
  have ff:s'.heap.FunFrames Bb X.stack:=fly.2.2.1
  have fly':Heap.FlyingW Bb (X.env::X.outer) ea (.ref C) a0 s'.heap:=hst▸fly
  have invAt:∀h5,Bb.StaysIn h5→s'.heap.UpToSlots h5→Inv X pins σ' H' {s' with heap:=h5}:=fun h5 st k=>by
   have u2:UnB (qy X.stack) H1 H' s1.heap Bb h5:=u.on ff k
   exact I1.call' (s':={s' with heap:=h5}) os (u2.un st I1.stkFree) (hokB.kept fun b o e=>st b o e) bare fun b z=>(nomatch z)
  refine wpAny_looks_onW (by rw[I1.ok.frames,hst]) hfr fly' fun h4 held4 k4=>?_
  refine wpAny_landsW held4 fun h5 fly5 k5=>?_
  have I5:=invAt h5 fly5.1 (k4.trans k5)
  obtain⟨ob,hob,hobc⟩:=fly5.there
  have Z5:jX ea C h5:=⟨ob,hob,hobc⟩
  refine wpAny_handleBy_cons (codeAny_handlers_test (lZ (X:=hX X ea) (A8 I5) hg hm ?_ hdb)) (by intro q;cases q)
  refine(PySem.W.exm_one (I5.kIn) (o9 Z5) (hok n hc.1 C ns)).here ?_
  refine codeAny_handlers_suite_as ?_
  refine lands_againW fly5 fun h6 fly6 k6=>?_
  have I6:=invAt h6 fly6.1 ((k4.trans k5).trans k6)
  obtain⟨oe,vs,hoe,hoec,hoed,_⟩:=fly6.first
  have nB:Bb.get? ea=none:=fly6.2.1
  have old:∀b o,s1.heap.get? b=some o→b≠ea:=fun b o eb z=>by
   subst z
   by_cases hf:b∈qy X.stack
   ·obtain⟨_,o',ho',hd⟩:=(show h6.FunFrames Bb X.stack from hst▸fly6.2.2.1).mem hf
    rw[hoe]at ho'
    cases ho'
    exact hd vs hoed
   ·obtain⟨o',ho'⟩:=u.there b o eb hf
    rw[nB]at ho'
    cases ho'
  have hn6:H' ea=none:=by
   cases q:H' ea with
   |none=>rfl
   |some o=>
    obtain⟨z,e⟩:=wZ (hokB ea o q)
    rw[nB]at e
    cases e
  have I7:Inv X pins σ' (fg H' ea (.ext (jX ea C))) {s' with heap:=h6}:=by
   refine Cv I6 hn6 ?_ ?_ (fun x c e=>?_) (fun p hp=>?_) ?_
   ·cases q:X.s₀.heap.get? ea with
    |none=>rfl
    |some o=>
     obtain⟨o',z⟩:=I1.base.there ea o q (by rw[hex];exact fun z=>(nomatch z))
     exact absurd rfl (old ea o' z)
   ·obtain⟨_,⟨o,_,_,ho,_⟩,_⟩:=I1.loc
    exact old _ o ho
   ·obtain⟨v,o,ho,_⟩:=I1.cell x c e
    exact old _ o ho
   ·exact old _ _ (I1.pin p hp).1
   ·exact⟨⟨oe,hoe,hoec⟩,⟨oe,hoe⟩,fun h1 h2 ⟨o,z,c⟩ k=>⟨o,k o z,c⟩⟩
  refine re (X:=X) I7 hN hi (.inl hk) (v:=.ref ea) rfl (fun s8 I8=>?_) (.inr hk)
  have g:Same H' (fg H' ea (.ext (jX ea C))):=fun b o e=>by rw[aM (bN e hn6)];exact e
  obtain⟨F',A',fr1⟩:=fr'
  have fr2:=fr1.grow g
  have nA:ea∉A':=fun z=>by
   rcases fr1.mutA ea z with⟨_,w⟩ |⟨_,w⟩ <;> rw[hn6]at w <;> cases w
  have fr3:=fr2.push (v:=.ref ea) (s:=.sh (Cw n)) ⟨rfl,_,rfl,.exc (by show(if ea∈A' then none else _)=_;rw[if_neg nA];exact ce) ns⟩
  obtain⟨A3,fr4⟩:=fr3.store rfl (fun _ z=>(nomatch z)) hc.2
  have q8:=hh ea pins s8 _ _ {nx:=fun _ _=>False,bk:=fun _ _=>False,ct:=fun _ _=>False,rt:=fun v H9=>∃σ9,Frm X.K B σ9 H9 E2 [v] [sv]} (A8 I8) ⟨B,_,[],[],E2,.rt sv,⟨_,A3,fr4⟩,rfl,eh,fun σ9 v H9 f=>⟨σ9,f⟩⟩
  refine zz2 q8 (fun f s9 z=>?_) fun _ _ z=>z.elim
  cases f with
  |next=>obtain⟨_,_,_,z⟩:=z;exact z.elim
  |brk=>obtain⟨_,_,_,z⟩:=z;exact z.elim
  |cont=>obtain⟨_,_,_,z⟩:=z;exact z.elim
  |ret uu=>
   obtain⟨v,σ9,H9,I9,rv,σx,fx⟩:=z
   have I9:Inv X pins σ9 H9 s9:=ED I9 I.ok
   exact EE I9 hN hi hk fun s10 I10=>⟨v,_,H9,I10,rv,q _ v H9 fx⟩
end PL
namespace PL
open PySem PySem.Spec PyProof.Rows L2 Nh
def XT(K:Frag)(c:Value)(tab:List (Str×Bool)):Prop:=∀n b C,tab.lookup n=some b→nsIn K mainGlobals n=some (some (.ref C))→ExCls K C∧kitOne K (.ref C) c=some b
theorem je{K:Frag}{c:Value}:XT K c []:=fun _ _ _ e=>nomatch e
theorem gA{K:Frag}{c:Value}{n:Str}{b:Bool}{tab:List (Str×Bool)}(ns:nsIn K mainGlobals n=some (some (.ref C)))(Z:ExCls K C)(k:kitOne K (.ref C) c=some b)(h:XT K c tab):XT K c ((n,b)::tab):=fun n' b' C' e ns'=>by
 rw[List.lookup_cons]at e
 split at e
 ·rename_i q
  rw[beq_iff_eq]at q
  subst q
  rw[ns]at ns'
  cases ns'
  cases e
  exact⟨Z,k⟩
 ·exact h n' b' C' e ns'
def lE(tab:List (Str×Bool)):PyData→Option PyData
 |.dict [(.none,.str n)]=>(tab.lookup n).map .bool
 |_=>none
theorem JD{K:Frag}{H:Hp}{v:V}{n:Str}(r:Rp K H v (.dict [(.none,.str n)])):∃a C,v=.ref a∧H a=some (.ext (jX a C))∧nsIn K mainGlobals n=some (some (.ref C)):=by
 generalize e:PyData.dict [(PyData.none,PyData.str n)]=d at r
 cases r with
 |exc h1 h2=>cases e;exact⟨_,_,rfl,h1,h2⟩
 |dct h1 h2=>
  cases h2 with
  |nil=>cases e
  | @cons k x us d kvs a b=>cases k <;> cases e
 |_=>cases e
section
variable {X:Cx} {e:Expr} {m1:Bool} {f:aY} {p p2 pos:Pos}
theorem Cy{c:Value}{vc:V}{tab:List (Str×Bool)}(rc:∀u,RelV vc u→u=c)(T:XT X.K c tab):CallR X (.builtin "isinstance") (fun xs H Q=>∃x d r,xs=[x,vc]∧Rp X.K H x d∧lE tab d=some r∧∀b,r=.bool b→Q (.bl b) H):=by
 intro pins s σ H xs us Q I r h
 obtain⟨x,d,r',rfl,rp,hd,q⟩:=h
 obtain⟨u,w',rfl,ru,rw'⟩:=r.two
 cases rc w' rw'
 unfold lE at hd
 split at hd
 ·rename_i n
  obtain⟨b,eb,z⟩:=Zad.mp hd
  obtain⟨a,C,rfl,ha,ns⟩:=JD rp
  obtain⟨Z,k⟩:=T n b C eb ns
  cases(show u=Value.ref a from ru)
  exact kia_one (Ez Z) I.kIn (show jX a C s.heap from(I.hok a _ ha).1) k (fun z=>nomatch z) fun tk=>⟨.bl b,H,I.tok _,rfl,q b z.symm⟩
 ·cases hd
theorem A9{c:Value} {vc:V} {tab:List (Str×Bool)} (rc:∀u,RelV vc u→u=c) (T:XT X.K c tab) (hg:Gl X "isinstance") (hm:X.mg "isinstance"=none) (ha:EX X e m1 f)  (h2:PE X (.Name x p2) (tC vc))
  (he:starEach [e,.Name x p2] X.env=(false,eval e X.env)::starEach [.Name x p2] X.env) (yU:starEach [.Name x p2] X.env=[(false,eval (.Name x p2) X.env)]) (hpl:(backTo pos (starEach [.Name x p2] X.env)).any (·.1)=false):
  EX X (.Call (.Name "isinstance" p) [e,.Name x p2] [] pos) m1 (mF (lE tab) f):=by
 refine bx (jT (Cy rc T) hg hm PyProof.Rows.boot_isinstance (cw ha (cw h2 eY yU) he) (by decide) (by decide) he hpl) fun σ H Q z=>?_
 obtain⟨B,E,xs,Xs,res,E',fr,cl,e,q⟩:=z
 obtain⟨⟨s,E1⟩,e1,e⟩:=Za.mp e
 obtain⟨d1,e2,e⟩:=Za.mp e
 obtain⟨d2,e3,e⟩:=Zad.mp e
 cases e
 refine⟨B,E,xs,Xs,s,E1,fr,cl,e1,fun v1 H1 ⟨F,A,fr1⟩=>?_⟩
 obtain⟨A',fr2⟩:=fr1.pop
 exact⟨v1,d1,d2,rfl,(fr1.look0 e2).1,e3,fun b z=>q _ _ ⟨F,A',fr2.push ⟨rfl,_,rfl,z▸ .bl b⟩⟩⟩
theorem hZ{tab:List (Str×Bool)} (hg:Gl X "isinstance") (hm:X.mg "isinstance"=none) (ha:EX X e m1 f)  (hgx:Gl X x) (hmx:X.mg x=some (.ref C)) (T:XT X.K (.ref C) tab) (hdx:(x == ("__debug__":Str))=false:=by decide)
  (he:starEach [e,.Name x p2] X.env=(false,eval e X.env)::starEach [.Name x p2] X.env:=by rfl) (yU:starEach [.Name x p2] X.env=[(false,eval (.Name x p2) X.env)]:=by rfl) (hpl:(backTo pos (starEach [.Name x p2] X.env)).any (·.1)=false:=by rfl):
  EX X (.Call (.Name "isinstance" p) [e,.Name x p2] [] pos) m1 (mF (lE tab) f):=A9 (vc:=.ref C) (fun _ z=>z) T hg hm ha (uM (v:=.ref C) hgx hmx rfl hdx) he yU hpl
theorem G4{t:String} {tab:List (Str×Bool)} (hg:Gl X "isinstance") (hm:X.mg "isinstance"=none) (ha:EX X e m1 f)  (hgx:Gl X x) (hmx:X.mg x=none) (hbx:bootBuiltins x=some (.type t)) (T:XT X.K (.type t) tab) (hnx:x≠"__name__":=by decide) (hdx:(x == ("__debug__":Str))=false:=by decide)
  (he:starEach [e,.Name x p2] X.env=(false,eval e X.env)::starEach [.Name x p2] X.env:=by rfl) (yU:starEach [.Name x p2] X.env=[(false,eval (.Name x p2) X.env)]:=by rfl) (hpl:(backTo pos (starEach [.Name x p2] X.env)).any (·.1)=false:=by rfl):
  EX X (.Call (.Name "isinstance" p) [e,.Name x p2] [] pos) m1 (mF (lE tab) f):=A9 (vc:=.ty t) (fun _ z=>z) T hg hm ha (Ax (v:=.ty t) hgx hmx hbx rfl hnx hdx) he yU hpl
end
structure RoomH (k:Nat) (A:Around):Prop where
 dp:A.depth+3*k+5 < recursionLimit
 un:A.units+16*k+200 < cLine
theorem RoomH.mono{A:Around}(r:RoomH k A)(h:j≤k):RoomH j A:=⟨by have:=r.dp;omega,by have:=r.un;omega⟩
theorem RoomH.deeper{A:Around}(r:RoomH (k+1) A)(env:Env):RoomH k (A.deeper env):=
 ⟨by have:=r.dp;show A.depth+1+3*k+5 < _;omega,by have:=r.un;show A.units+3+16*k+200 < _;omega⟩
theorem RoomH.depth{A:Around}(r:RoomH k A):A.depth < recursionLimit:=by have:=r.dp;omega
theorem RoomH.units{A:Around}(r:RoomH k A):A.units+64 < cLine:=by have:=r.un;omega
theorem Room.mark{A:Around}(r:Room k A)(v:Option Value):RoomH k (A.mark v):=⟨r.dp,r.un⟩
abbrev L5(P:Program)(w:World)(K:Frag)(mg:Str→Option Value)(base:Heap)(N:List Str)(qual:Str)(scope:Scope)(f:Addr)(cd:Value)(A:Around)(outer:List Env)(s:Shared)(H:Hp)(E:XK):Cx:={kl yR P w K mg base N qual scope f cd A outer s H E with calm:=false,xe:=fun _ _=>False}
structure FnOkH (P:Program) (w:World) (K:Frag) (mg:Str→Option Value) (base:Heap) (k:Nat) (f:Addr) (fd:FuncData) (ps:List Str) (sp:Sp):Prop where
 len:∀vs H Q E,sp vs H Q E→vs.length=ps.length
 run:∀(A:Around) (outer:List Env) (s:Shared) (H:Hp) (args:Args) (us:List Value) (vs:List V) (Q:VK) (E:XK),RoomH k A→Env0 P w K mg base A outer s H→BindsTo s fd args (ps.zip us)→Vals vs us→sp vs H Q E→
  codeAny (model P w) A (.call (.ref f) args) (CR yR outer P w H s Q E) s
structure OwnH (P:Program) (w:World) (K:Frag) (mg:Str→Option Value) (base:Heap) (k:Nat) (x:Str) (ps:List Str) (sp:Sp):Prop where
 ex:∃(f:Addr) (fd:FuncData),FnOkH P w K mg base k f fd ps sp∧Binds K fd ps []∧mg x=some (.ref f)∧keepIn K (.ref f)=true
theorem JE{w:World}{K:Frag}{mg:Str→Option Value}{base:Heap}{f:Addr}{name:Str}{dV kV ct:Value}{od:Option Addr}
   {N:List Str}  (lk:K.lookup f=some ⟨oc,od,.func (fnOf name qual params body scope dV kV doc pm an cdv ct),osl⟩) (hcd:codeIn K cdv qual=true) (S:FnScope N ps scope)
  (len:∀vs H Q E,sp vs H Q E→vs.length=ps.length)
  (hbody:∀(A:Around) (outer:List Env) (s:Shared) (H:Hp) (vs:List V) (Q:VK) (E:XK),RoomH k (A.deeper (envOfC qual scope s.heap.objs.size f cdv))→sp vs H Q E→
   ∃t,PSs (L5 P w K mg base N qual scope f cdv A outer s H E) body t∧t {nx:=fun _ H'=>Q .non H',rt:=Q} (iL N vs) H):
  FnOkH P w K mg base (k+1) f (fnOf name qual params body scope dV kV doc pm an cdv ct) ps sp:=by
 refine⟨len,fun A outer s H args us vs Q E hr e0 hb r hsp=>?_⟩
 have hl:=len _ _ _ _ hsp
 have KX:K.In s.heap:=e0.mod.kin.keeps fun b o e=>(e0.bs b o e).1
 have lim:s.heap.NoLimit:=e0.mod.nolimit.keeps fun b o e=>(e0.bs b o e).1
 have hkind:∀y∈ps.zip us,scope.names.lookup y.1=some .local∨(scope.names.lookup y.1=some .cell∧((cellsFrom (s.heap.objs.size+1) scope.names []).lookup y.1).isSome=true):=fun⟨n,v⟩ hy=>by
  rcases S.par n (List.of_mem_zip hy).1 with q |q
  ·exact .inl q
  ·exact .inr ⟨q,cellsFrom_some _ _ _ (.inl q)⟩
 refine codeAny_call_function hr.depth (KX _ _ lk) rfl S.co S.gen rfl (PySem.W.codeRec_of KX hcd) (hb _ _ _ _ ?_)
 refine wpAny_newFunctionEnv_cells S.kind hkind fun env he s1 x=>?_
 subst he
 refine⟨lim.keeps x.toInCall.keep,codeAny_func ?_⟩
 obtain⟨t,ht,hq⟩:=hbody A outer s H vs Q E (hr.deeper _) hsp
 have I0:Inv (kl yR P w K mg base N qual scope f cdv {A with handled:=none} outer s H E) [] (iL N vs) H s1:=tS S rfl ⟨e0.frames,e0.mod,e0.bs,e0.bsz,e0.funs,e0.frf,e0.hok,e0.bare,e0.tab⟩ hl r x
 have I:Inv (L5 P w K mg base N qual scope f cdv A outer s H E) [] (iL N vs) H s1:=
  let ok:=I0.ok
  ⟨⟨ok.mod,ok.kind,ok.glob,ok.blt,ok.above,ok.inj,ok.has,ok.cab,fun z=>(nomatch z),Around.frames_deeper e0.frames,ok.stk,ok.exf,ok.bs,ok.bsz,ok.noex,ok.exfs,ok.funs,ok.frf,ok.tab⟩,I0.os,I0.bare,I0.base,I0.loc,I0.cell,I0.free,I0.freeC,I0.pin,I0.hok,I0.len⟩
 refine zz2 (ht [] s1 (iL N vs) H _ I hq) (fun fl s' hs=>?_) fun e s' hs=>hs.elim
 have fin:∀{σ':L2.St} {H':Hp} {v:V} {u:Value},Inv (L5 P w K mg base N qual scope f cdv A outer s H E) [] σ' H' s'→RelV v u→Q v H'→CE outer P w H s Q u s':=
  fun {σ' H' v u} J rv q=>⟨v,H',J.os,J.bare,J.base,J.hok,rv,q⟩
 cases fl with
 |ret u=>
  obtain⟨v,σ',H',J,rv,q⟩:=hs
  exact fin J rv q
 |next=>
  obtain⟨σ',H',J,q⟩:=hs
  exact fin (v:=V.non) (u:=Value.none) J rfl q
 |brk=>
  obtain⟨_,_,_,q⟩:=hs
  exact False.elim q
 |cont=>
  obtain⟨_,_,_,q⟩:=hs
  exact False.elim q
theorem MI{w:World}{K:Frag}{mg:Str→Option Value}{base:Heap}{N:List Str}{a n:Nat}{g:bX}(D:Def K mg x st ps)(S:FnScope N ps (aq st))(hpa:ps.length=a)(hNn:N.length=n)(hps:a≤n)
  (hbody:∀(f:Addr) (cdv:Value) (A:Around) (outer:List Env) (s:Shared) (H:Hp) (E:XK),RoomH k (A.deeper (PyProof.Rows.envOfC x (aq st) s.heap.objs.size f cdv))→
   AK (L5 P w K mg base N x (aq st) f cdv A outer s H E) (bI st) g):OwnH P w K mg base (k+1) x ps (gh K (fi a n g)):=by
 subst hpa hNn
 obtain⟨f,fd,F,mx,b⟩:=D.ex
 have kp:=F.kp
 obtain⟨oc,od,kV,doc,pm,an,cdv,ct,osl,rfl,lk,hcd⟩:=F.ex
 refine⟨f,_,JE lk hcd S (fun vs H Q E h=>?_) fun A outer s H vs Q E hr h=>?_,b,mx,kp⟩
 ·obtain⟨ds,r,e,rp,_⟩:=h
  unfold fi at e
  split at e
  ·rename_i hl
   rw[rp.len];exact hl
  ·cases e
 obtain⟨ds,r,e,rp,q⟩:=h
 unfold fi at e
 split at e
 ·rename_i hl
  refine⟨_,hbody f cdv A outer s H E hr,?_⟩
  obtain⟨⟨E',fl⟩,e1,e⟩:=Za.mp e
  refine⟨H,eZ N.length ds,[],[],E',fl,⟨H,[],om rp (by omega)⟩,rfl,e1,?_⟩
  cases fl with
  |nx=>
   cases e
   rintro σ' H' ⟨F',A',fr'⟩
   exact q _ _ (fr'.bf.trans fr'.fh) .non
  |bk=>cases e
  |ct=>cases e
  |rt r'=>
   rintro σ' v H' ⟨F',A',fr'⟩
   obtain⟨s1,s2⟩:=fr'.resultO e
   exact q v H' s1 s2
 ·cases e
theorem G5{c:List PyData→Option Sl}{pos:Pos}{es:List Expr}{g:rB}(D:OwnH X.prog X.w X.K X.mg X.base k x ps (gh X.K c))(hr:RoomH k X.A)(hg:Gl X x)(ha:AX X (e::es) m g)
  (hdb:(x == ("__debug__":Str))=false:=by decide) (he:starEach (e::es) X.env=(false,eval e X.env)::starEach es X.env:=by rfl) (hpl:(backTo pos (starEach es X.env)).any (·.1)=false:=by rfl):
  EX X (.Call (.Name x p) (e::es) [] pos) m (ak c g):=by
 obtain⟨f,fd,F,b,mx,kp⟩:=D.ex
 have hc:PE X (.Call (.Name x p) (e::es) [] pos) (DG (gh X.K c) [] E0 (ra X.K m g)):=by
  intro pins s σ H Q I h
  refine zz6 (lZ I hg mx ?_ hdb)
  refine callWith_K (h₀:=X.base) I.ok.mod.kin kp (fA (ha pos pins s σ H _ I h) fun us s1 ⟨vs,H1,I1,r,q⟩=>⟨I1.kIn,?_⟩) he hpl
  have q:gh X.K c (vs++[]) H1 Q E0:=q
  rw[oS]at q
  have hlen:(us++[]).length=ps.length:=by rw[oS,←r.length];exact F.len _ _ _ _ q
  have bd:=b s1 us I1.kIn hlen
  rw[oS]at bd
  refine wpAny_call (codeAny_mono (F.run X.A X.stack s1 H1 ⟨us,[]⟩ us vs Q E0 hr I1.env0 bd r q) fun rr s' hq=>?_)
  cases rr with
  |error e=>exact False.elim hq
  |ok fl=>
   cases fl with
   |ret u=>exact I1.after hq
   |next=>exact False.elim hq
   |brk=>exact False.elim hq
   |cont=>exact False.elim hq
 refine bx hc fun σ H Q z=>?_
 obtain⟨B,E,xs,Xs,res,E',fr,cl,e,q⟩:=z
 obtain⟨⟨rs,E1⟩,e1,e⟩:=Za.mp e
 obtain⟨ds,e2,e⟩:=Za.mp e
 obtain⟨r,e3,e⟩:=Zad.mp e
 cases e
 refine⟨B,E,xs,Xs,rs,E1,fr,cl,e1,fun vs H1 hl ⟨F,A,fr1⟩=>?_⟩
 obtain⟨r1,A',fr2⟩:=fr1.looks hl e2
 exact⟨ds,res,e3,by rw[oS];exact r1,fun v H' g q'=>q v H' (fr2.told g q')⟩
end PL
namespace PL
open PySem PySem.Spec PyProof.Rows L2 Nh
theorem vJ:∀{bs:List Bool} {us:List Value},Vals (bs.map .bl) us→us=bs.map Value.bool
 |[],_,h=>by cases h;rfl
 |b::bs,_,h=>by
  cases h with
  |cons r t=>
   have e:=vJ t
   cases r
   rw[e]
   rfl
theorem w6(b:Bool):tT (.bl true) (.bool b)=b:=by cases b <;> rfl
def G6:V→List V→Hp→VK→Prop:=fun x vs H Q=>∃(l:Addr) (bs:List Bool),x=.ref l∧vs=[.bl true]∧H l=some (.lst (bs.map V.bl))∧Q (.int ((bs.countP id:Nat):Int)) H
def G7:V→List V→Hp→VK→Prop:=fun x vs H Q=>∃(l:Addr) (bs:List Bool),x=.ref l∧vs=[.bl true]∧H l=some (.lst (bs.map V.bl))∧bs.findIdx id < bs.length∧bs.length≤1000∧Q (.int ((bs.findIdx id:Nat):Int)) H
section
variable {X:Cx}
theorem Cz:Kn X "list.count" G6:=by
 intro pins s σ H x vs v us Q I rx rv h
 obtain⟨l,bs,rfl,rfl,hH,q⟩:=h
 cases rx
 obtain⟨u,rfl,ru⟩:=rv.one
 obtain⟨z,its,n,r,hl,e⟩:=I.lstM hH
 have ei:=vJ r
 refine call_meets F.slot_list_count ⟨_,e,rfl⟩ F.entry_list_count (F.args_list_count_2 _ _) (SeqAt.list_countAt l its.toArray n none #[] u (tT (.bl true))) ⟨e,fun y hy=>i7 ru rfl r (by simp[List.all_eq_true,jF]) y (by simpa using hy),?_⟩
 refine⟨.int _,H,I.tok _,⟨_,rfl⟩,?_⟩
 have k:its.toArray.toList.countP (tT (.bl true))=bs.countP id:=by
  rw[List.toList_toArray,ei,List.countP_map]
  congr 1
  funext b
  exact w6 b
 rw[k]
 exact q
theorem CA:Kn X "list.index" G7:=by
 intro pins s σ H x vs v us Q I rx rv h
 obtain⟨l,bs,rfl,rfl,hH,hj,hl0,q⟩:=h
 cases rx
 obtain⟨u,rfl,ru⟩:=rv.one
 obtain⟨z,its,n,r,hl,e⟩:=I.lstM hH
 have ei:=vJ r
 have hlen:its.length=bs.length:=by rw[ei,c_]
 have at_:∀m (hm:m < its.toArray.size),tT (.bl true) its.toArray[m]=bs[m]'(by simpa[hlen]using hm):=fun m hm=>by
  subst ei
  simp only[List.getElem_toArray,List.getElem_map]
  exact w6 _
 refine call_meets F.slot_list_index ⟨_,e,rfl⟩ F.entry_list_index (F.args_list_index_2 _ _) (SeqAt.list_indexAt l its.toArray n none #[] u (tT (.bl true)) (bs.findIdx id) (by simpa[hlen]using hj) (by omega) ?_ fun m hm h2=>?_) ⟨e,fun y hy=>i7 ru rfl r (by simp[List.all_eq_true,jF]) y (by simpa using hy),?_⟩
 ·rw[at_]
  exact List.findIdx_getElem (w:=hj)
 ·rw[at_]
  simpa using List.not_of_lt_findIdx h2
 ·exact⟨.int _,H,I.tok _,⟨_,rfl⟩,q⟩
end
def qT(i:Nat):aY:=fun E=>match E[i]? with
 |some (.ow ds)=>(hW ds).map fun bs=>(.sh (.int ((bs.countP id:Nat):Int)),E)
 |_=>none
def qU(i:Nat):aY:=fun E=>match E[i]? with
 |some (.ow ds)=>(hW ds).bind fun bs=>if bs.findIdx id < bs.length∧bs.length≤1000 then some (.sh (.int ((bs.findIdx id:Nat):Int)),E)else none
 |_=>none
section
variable {X:Cx} {x:Str} {p p2 apos cpos:Pos} {j:Nat}
theorem CB(i:Nat) (hN:X.N[i]? =some x:=by rfl) (hv:HR X.env.scope x:=by first |exact Or.inl rfl |exact Or.inr (Or.inl rfl) |exact Or.inr (Or.inr rfl)) (hd:(x == ("__debug__":Str))=false:=by decide) (hcd:(x == ("__classdict__":Str))=false:=by decide)
  (hs:starEach [.Constant (.bool true) j p2] X.env=[(false,eval (.Constant (.bool true) j p2) X.env)]:=by rfl) (hbase:attributeBase (.Name x p) "count" X.env (eval (.Name x p) X.env)=eval (.Name x p) X.env:=by rfl)
  (hfew:((backTo cpos (starEach [.Constant (.bool true) j p2] X.env)).all (fun x=> !x.1)&&(backToKw cpos (keywordEach [] X.env)).all (fun x=>x.1.isSome)
   &&decide (([Expr.Constant (.bool true) j p2]:List Expr).length+([]:List Keyword).length+(if ([]:List Keyword).isEmpty then 0 else 1) < 30))=true:=by rfl) (hline:(apos.endLine == cpos.line)=true:=by rfl):
  EX X (.Call (.Attribute (.Name x p) "count" apos) [.Constant (.bool true) j p2] [] cpos) false (qT i):=by
 refine bx (wx PySem.F.plainAttrs_list PySem.F.slot_list_count PySem.F.type_list_count Cz (oT hN hv hd hcd) (cw Du eY hs) hbase hfew hline hs rfl) fun σ H Q z=>?_
 obtain⟨B,E,xs,Xs,res,E',⟨F,A,fr⟩,cl,e,q⟩:=z
 unfold qT at e
 split at e
 ·rename_i ds ei
  obtain⟨bs,eb,e⟩:=Zad.mp e
  cases e
  obtain⟨o,A1,eo,l,vs,rfl,rfl,hl0,r⟩:=fr.var ei
  have z:=oq r eb
  subst z
  exact⟨_,eo,.inl ⟨rfl,_,SqL.of hl0⟩,l,bs,rfl,rfl,hl0,q _ _ ⟨F,A,fr.push ⟨rfl,_,rfl,.int _⟩⟩⟩
 ·cases e
theorem CC(i:Nat) (hN:X.N[i]? =some x:=by rfl) (hv:HR X.env.scope x:=by first |exact Or.inl rfl |exact Or.inr (Or.inl rfl) |exact Or.inr (Or.inr rfl)) (hd:(x == ("__debug__":Str))=false:=by decide) (hcd:(x == ("__classdict__":Str))=false:=by decide)
  (hs:starEach [.Constant (.bool true) j p2] X.env=[(false,eval (.Constant (.bool true) j p2) X.env)]:=by rfl) (hbase:attributeBase (.Name x p) "index" X.env (eval (.Name x p) X.env)=eval (.Name x p) X.env:=by rfl)
  (hfew:((backTo cpos (starEach [.Constant (.bool true) j p2] X.env)).all (fun x=> !x.1)&&(backToKw cpos (keywordEach [] X.env)).all (fun x=>x.1.isSome)
   &&decide (([Expr.Constant (.bool true) j p2]:List Expr).length+([]:List Keyword).length+(if ([]:List Keyword).isEmpty then 0 else 1) < 30))=true:=by rfl) (hline:(apos.endLine == cpos.line)=true:=by rfl):
  EX X (.Call (.Attribute (.Name x p) "index" apos) [.Constant (.bool true) j p2] [] cpos) false (qU i):=by
 refine bx (wx PySem.F.plainAttrs_list PySem.F.slot_list_index PySem.F.type_list_index CA (oT hN hv hd hcd) (cw Du eY hs) hbase hfew hline hs rfl) fun σ H Q z=>?_
 obtain⟨B,E,xs,Xs,res,E',⟨F,A,fr⟩,cl,e,q⟩:=z
 unfold qU at e
 split at e
 ·rename_i ds ei
  obtain⟨bs,eb,e⟩:=Za.mp e
  split at e
  ·rename_i hc
   cases e
   obtain⟨o,A1,eo,l,vs,rfl,rfl,hl0,r⟩:=fr.var ei
   have z:=oq r eb
   subst z
   exact⟨_,eo,.inl ⟨rfl,_,SqL.of hl0⟩,l,bs,rfl,rfl,hl0,hc.1,hc.2,q _ _ ⟨F,A,fr.push ⟨rfl,_,rfl,.int _⟩⟩⟩
  ·cases e
 ·cases e
end
end PL
namespace PL
open PySem L2 Nh
def jJ(g:aY):aY:=fun E=>(g E).bind fun a=>match look a.2 a.1 with
 |some (.str x)=>if (lj x).length < 4000 then some (.sh (.int (jC (lj x)).length),a.2)else none
 |_=>none
section
variable {X:Cx} {e:Expr} {m1:Bool} {f:aY} {p p2 pos pos2:Pos}
theorem w_:CallR X (.builtin "len") (fun xs H Q=>∃(a:Addr) (ks:List Str),xs=[.ref a]∧H a=some (wY X.w a ks)∧Q (.int ks.length) H):=by
 intro pins s σ H xs us Q I r h
 obtain⟨a,ks,rfl,ha,q⟩:=h
 obtain⟨u,rfl,rx⟩:=rj r
 cases rx
 obtain⟨⟨es,ep,t,ho,S⟩,_,_⟩:ObjOk X.prog X.w H s.heap a (wY X.w a ks):=I.hok a _ ha
 have hb:=S.bound
 have h62:scanBound≤2 ^ 62:=by decide
 have hf:(es.size:Int) < 2 ^ 63:=by omega
 exact call_len_set ho ⟨rfl,rfl,rfl⟩ rfl S.fits hf ⟨.int ks.length,H,I.tok _,⟨s.toks+1,by rw[S.len]⟩,q⟩
theorem CD(hc:X.calm=true) (hg:Gl X "len") (hm:X.mg "len"=none) (hg2:Gl X "set") (hm2:X.mg "set"=none) (ha:EX X e m1 f) (he:starEach [e] X.env=[(false,eval e X.env)]:=by rfl)
  (yU:starEach [.Call (.Name "set" p2) [e] [] pos2] X.env=[(false,eval (.Call (.Name "set" p2) [e] [] pos2) X.env)]:=by rfl):EX X (.Call (.Name "len" p) [.Call (.Name "set" p2) [e] [] pos2] [] pos) m1 (jJ f):=by
 refine bx (jT w_ hg hm PySem.boot_len (cw (l6 (uh hc) hg2 hm2 PyProof.Rows.boot_set (cw ha eY he) (by decide) (by decide) he rfl) eY yU) (by decide) (by decide) yU rfl) fun σ H Q z=>?_
 obtain⟨B,E,xs,Xs,res,E',fr,cl,e,q⟩:=z
 obtain⟨⟨s,E1⟩,e1,e⟩:=Za.mp e
 refine⟨B,E,xs,Xs,s,E1,fr,cl,e1,fun v1 H1 ⟨F,A,fr1⟩=>?_⟩
 obtain⟨A',fr2⟩:=fr1.pop
 simp only at e
 split at e
 ·rename_i x ld
  split at e
  ·rename_i hc
   cases e
   have r:=(fr1.look0 ld).1
   cases r
   exact .inr ⟨x,rfl,hc,fun a ha=>⟨a,_,rfl,ce,q _ _ ⟨_,_,(fr2.grow (i9 ha _)).push ⟨rfl,_,rfl,oY rfl⟩⟩⟩⟩
  ·cases e
 ·cases e
end
end PL
namespace NhSG
set_option autoImplicit false
open PySem PyProof PyProof.Rows PySem.W
abbrev Ky:=Int×List Nat
def iQ(a b:Ky):Bool:=decide (a.1 < b.1)||(decide (a.1=b.1)&&decide (a.2 < b.2))
theorem ltKy_iff{a b:Ky}:iQ a b=true↔a.1 < b.1∨(a.1=b.1∧a.2 < b.2):=by simp[iQ]
theorem vK{a b:Ky}:iQ a b=false↔¬(a.1 < b.1∨(a.1=b.1∧a.2 < b.2)):=by rw[←ltKy_iff];simp
def tF(hp:Heap):Value→Option Ky
 |.ref a=>(hp.get? a).bind fun o=>match o.data with
  |.seq xs _=>match xs.toList with
   |[.int n _,.str z _]=>some (n,z.cps.toList)
   |_=>none
  |_=>none
 |_=>none
theorem G8{hp:Heap}{o:Obj}{xs:Array Value}{n:Int}{t u:Tok}(ho:hp.get? a=some o)(hd:o.data=.seq xs k)(hx:xs.toList=[.int n t,.str z u]):tF hp (.ref a)=some (n,z.cps.toList):=by
 simp[tF,ho,hd,hx]
theorem A_{hp:Heap}{v:Value}{y:Ky}(h:tF hp v=some y):∃a o xs k t z u,v=.ref a∧hp.get? a=some o∧o.data=.seq xs k∧xs.toList=[.int y.1 t,.str z u]∧y.2=z.cps.toList:=by
 unfold tF at h
 split at h
 ·rename_i a
  obtain⟨o,ho,h⟩:=Za.mp h
  split at h
  ·rename_i xs k hd
   split at h
   ·rename_i n t z u hx
    cases h
    exact⟨a,o,xs,k,t,z,u,rfl,ho,hd,hx,rfl⟩
   ·cases h
  ·cases h
 ·cases h
@[reducible] def h7 (hp:Heap):PyProof.Rows.KeyKind where
 α:=Ky
 blt:=iQ
 irrefl a:=by
  rw[vK]
  rintro(h |h)
  ·omega
  ·exact List.lt_irrefl _ h.2
 trans a b c h1 h2:=by
  rw[ltKy_iff]at *
  rcases h1 with h1 |h1
  ·rcases h2 with h2 |h2
   ·exact .inl (by omega)
   ·exact .inl (by omega)
  ·rcases h2 with h2 |h2
   ·exact .inl (by omega)
   ·exact .inr ⟨by omega,List.lt_trans h1.2 h2.2⟩
 negTrans a b c h:=by
  rw[ltKy_iff]at *
  rw[ltKy_iff]
  by_cases hab:a.1 < b.1
  ·exact .inl (.inl hab)
  ·by_cases hbc:b.1 < c.1
   ·exact .inr (.inl hbc)
   ·have e:a.1=c.1∧a.2 < c.2:=by
     rcases h with h |h
     ·omega
     ·exact h
    by_cases hab2:a.2 < b.2
    ·exact .inl (.inr ⟨by omega,hab2⟩)
    ·exact .inr (.inr ⟨by omega,List.lt_of_le_of_lt (List.not_lt.mp hab2) e.2⟩)
 total a b h1 h2:=by
  rw[vK]at *
  have e:a.1=b.1:=by
   have n1:¬a.1 < b.1:=fun z=>h1 (.inl z)
   have n2:¬b.1 < a.1:=fun z=>h2 (.inl z)
   omega
  have e2:a.2=b.2:=List.le_antisymm (List.not_lt.mp fun z=>h2 (.inr ⟨e.symm,z⟩)) (List.not_lt.mp fun z=>h1 (.inr ⟨e,z⟩))
  exact Prod.ext e e2
 keyOf:=tF hp
 dflt:=(0,[])
def NK(prog:Program)(w:World)(A:Around)(κ:PyProof.Rows.KeyKind)(kd:SortKind)(s:Shared):Prop:=
 ∀(E:Value→Shared→Prop) (x y:Value) (a b:κ.α) {Q:Bool→Shared→Prop},κ.keyOf x=some a→κ.keyOf y=some b→Q (κ.blt a b) s→wpAny (model prog w) A (keyLt' kd x y) Q E s
theorem G9{prog:Program}{w:World}{A:Around}{s:Shared}:NK prog w A (h7 s.heap) (tuples' true) s:=fun E x y a b Q ha hb hq=>by
 obtain⟨ax,ox,xs,kx,tx,zx,ux,rfl,hox,hdx,hxx,ea⟩:=A_ ha
 obtain⟨ay,oy,ys,ky,ty,zy,uy,rfl,hoy,hdy,hyy,eb⟩:=A_ hb
 refine kat_lt hox hdx hoy hdy ?_
 have fin:decide (xs.size < ys.size)=false:=by
  have l1:xs.size=2:=by rw[←Zb,hxx];rfl
  have l2:ys.size=2:=by rw[←Zb,hyy];rfl
  rw[l1,l2]
  rfl
 rw[hxx,hyy,fin]
 show KatLex prog w A true false Q [(.int a.1 tx,.int b.1 ty),(.str zx ux,.str zy uy)] 0 s
 refine kat_cons (wpAny_eqBool_int (kat_go (fun e1=>kat_yes (kat_cons (wpAny_eqBool_str (kat_go (fun e2=>kat_yes (kat_nil ?_)) (fun e2=>kat_no ?_))))) (fun e1=>kat_no ?_)))
 ·have e1:a.1=b.1:=by simpa using e1
  have e2:zx=zy:=by simpa using e2
  have:iQ a b=false:=by
   rw[vK,ea,eb,e2]
   rintro(z |z)
   ·omega
   ·exact List.lt_irrefl _ z.2
  rw[←this]
  exact hq
 ·have e1:a.1=b.1:=by simpa using e1
  show wpAny (model prog w) A (oneLt' false (.str zx ux) (.str zy uy)) Q _ s
  refine kat_one _ _ (PySem.P.lt_str ?_)
  have:iQ a b=decide (zx.cps.toList < zy.cps.toList):=by
   unfold iQ
   rw[←ea,←eb]
   simp[e1]
  have hq':Q (iQ a b) s:=hq
  rw[this]at hq'
  exact hq'
 ·have e1:¬a.1=b.1:=by simpa using e1
  show wpAny (model prog w) A (oneLt' true (.int a.1 tx) (.int b.1 ty)) Q _ s
  refine oneLt_int ?_
  have:iQ a b=decide (a.1 < b.1):=by
   unfold iQ
   simp[e1]
  have hq':Q (iQ a b) s:=hq
  rw[this]at hq'
  exact hq'
end NhSG
namespace NhLS
set_option autoImplicit false
open PySem PyProof.Rows
def G_:Bool→Keyed→Array Keyed→Nat→Nat→Nat→StateT SortSt Sem (Option Nat):=sortPriv% PySem.Builtin.gallop
def EG:Array Keyed→Array Keyed→StateT SortSt Sem (Array Keyed):=sortPriv% PySem.Builtin.mergeLo
def EH:Array Keyed→Array Keyed→StateT SortSt Sem (Array Keyed):=sortPriv% PySem.Builtin.mergeHi
def Ha:Keyed:=(Value.none,Value.none)
def at'(a:Array Keyed)(i:Nat):Keyed:=a.getD i Ha
theorem Ln{a:Array Keyed}{i:Nat}(h:i < a.size):a[i]? =some (at' a i):=by simp[at',Array.getD,h]
structure Cmp (prog:Program) (w:World) (A:Around) (s:Shared) (κ:SortKind) (O:KeyOrd) (key:Keyed→O.α) (dom:Keyed→Prop):Prop where
 ask:∀(E:Value→Shared→Prop) (x y:Keyed) (Q:Bool→Shared→Prop),dom x→dom y→Q (O.blt (key x) (key y)) s→wpAny (model prog w) A (keyLt' κ x.1 y.1) Q E s
section
variable {prog:Program} {w:World} {A:Around} {E:Value→Shared→Prop} {s:Shared} {κ:SortKind} {O:KeyOrd} {key:Keyed→O.α} {dom:Keyed→Prop} {st:SortSt}
theorem EI(C:Cmp prog w A s κ O key dom){x y:Keyed}{Q:Option Bool→SortSt→Prop}(hk:kindOf st=κ)(dx:dom x)(dy:dom y)(h:Q (some (O.blt (key x) (key y))) st):wpS (model prog w) A E s (lt' x y) Q st:=by
 rw[lt'_eq]
 refine wpS_bind (wpS_get ?_)
 rw[hk]
 refine wpS_bind (wpS_lift (wpAny_attempt (C.ask _ _ _ _ dx dy ⟨rfl,?_⟩)))
 exact wpS_pure h
theorem jf{arr:Array Keyed}{i:Nat}{Q:Keyed→SortSt→Prop}(hi:i < arr.size)(h:Q (at' arr i) st):wpS (model prog w) A E s (elem' arr i) Q st:=by
 rw[elem'_eq,Ln hi]
 exact wpS_pure h
def jD(O:KeyOrd)(key:Keyed→O.α)(left:Bool)(k:Keyed)(arr:Array Keyed)(base i:Nat):Bool:=if left then O.blt (key (at' arr (base+i))) (key k)else !O.blt (key k) (key (at' arr (base+i)))
theorem j7(C:Cmp prog w A s κ O key dom){left:Bool}{k:Keyed}{arr:Array Keyed}{base n hint:Nat}{Q:Option Nat→SortSt→Prop}(hk:kindOf st=κ)(hh:hint < n)(hb:base+n≤arr.size)(dk:dom k)(da:∀i,i < arr.size→dom (at' arr i))
  (mono:∀i j,i < j→j < n→jD O key left k arr base j=true→jD O key left k arr base i=true)
  (h:∀m,m≤n→(∀i,i < m→jD O key left k arr base i=true)→(∀i,m≤i→i < n→jD O key left k arr base i=false)→Q (some m) st):wpS (model prog w) A E s (G_ left k arr base n hint) Q st:=by
 have bey:∀{i:Nat} {Q':Option Bool→SortSt→Prop},i < n→Q' (some (jD O key left k arr base i)) st→wpS (model prog w) A E s (elem' arr (base+i) >>= fun x=>if left=true then lt' x k else (lt' k x >>= fun r=>pure (r.map (!·)))) Q' st:=by
  intro i Q' hi hq
  refine wpS_bind (jf (by lia) ?_)
  have dx:=da (base+i) (by lia)
  cases left with
  |true=>exact EI C hk dx dk hq
  |false=>exact wpS_bind (EI C hk dk dx (wpS_pure hq))
 refine wpS_bind (bey hh ?_)
 have up:∀i j,i≤j→j < n→jD O key left k arr base j=true→jD O key left k arr base i=true:=fun i j hij hj e=>by
  by_cases z:i=j
  ·rw[z];exact e
  ·exact mono i j (by exact zz9 ‹_› ‹_›) hj e
 have dn:∀i j,i≤j→j < n→jD O key left k arr base i=false→jD O key left k arr base j=false:=fun i j hij hj e=>by
  cases z:jD O key left k arr base j with
  |false=>rfl
  |true=>rw[up i j hij hj z]at e;cases e
 have fin:∀{body:Nat→Option (Option Nat)×Nat×Nat→StateT SortSt Sem (ForInStep (Option (Option Nat)×Nat×Nat))} {cont:Option (Option Nat)×Nat×Nat→StateT SortSt Sem (Option Nat)},
   (∀lo,Q (some lo) st→wpS (model prog w) A E s (cont (none,lo,lo)) Q st)→
   (∀x lo hi (R:ForInStep (Option (Option Nat)×Nat×Nat)→SortSt→Prop),lo≥hi→R (.done (none,lo,hi)) st→wpS (model prog w) A E s (body x (none,lo,hi)) R st)→
   (∀x lo hi (R:ForInStep (Option (Option Nat)×Nat×Nat)→SortSt→Prop),lo < hi→hi≤n→R (.yield (if jD O key left k arr base (lo+(hi - lo) / 2)=true then (none,lo+(hi - lo) / 2+1,hi)else (none,lo,lo+(hi - lo) / 2))) st→wpS (model prog w) A E s (body x (none,lo,hi)) R st)→
   ∀lo hi,lo≤hi→hi≤n→(∀i,i < lo→jD O key left k arr base i=true)→(∀i,hi≤i→i < n→jD O key left k arr base i=false)→
   wpS (model prog w) A E s (forIn [0:n] (none,lo,hi) body >>= cont) Q st:=by
  intro body cont b3 b1 b2 lo hi f1 f2 f3 f4
  refine wpS_bind (wpS_mono (wpS_forRange (I:=fun x c st'=>st'=st∧∃lo hi,c=(none,lo,hi)∧lo≤hi∧hi≤n∧hi+x≤n+lo∧(∀i,i < lo→jD O key left k arr base i=true)∧(∀i,hi≤i→i < n→jD O key left k arr base i=false))
   (Q:=fun c st'=>st'=st∧∃lo,c=(none,lo,lo)∧lo≤n∧(∀i,i < lo→jD O key left k arr base i=true)∧(∀i,lo≤i→i < n→jD O key left k arr base i=false)) ?s1 ?s2 ⟨rfl,lo,hi,rfl,f1,f2,by exact Nat.le_add_right_of_le ‹_›,f3,f4⟩) ?s3)
  case s2=>
   rintro c st' ⟨rfl,l,o,rfl,h1,h2,h3,h4,h5⟩
   have:l=o:=by lia
   subst this
   exact⟨rfl,l,rfl,h2,h4,h5⟩
  case s3=>
   rintro c st' ⟨rfl,l,rfl,h2,h4,h5⟩
   exact b3 l (h l h2 h4 h5)
  case s1=>
   rintro x c st' - hx ⟨rfl,l,o,rfl,h1,h2,h3,h4,h5⟩
   by_cases z:l≥o
   ·have:l=o:=by exact Nat.le_antisymm ‹_› ‹_›
    subst this
    exact b1 x l l _ z ⟨rfl,l,rfl,h2,h4,h5⟩
   ·refine b2 x l o _ (by exact Nat.lt_of_not_le ‹_›) h2 ?_
    cases e:jD O key left k arr base (l+(o - l) / 2)with
    |true=>exact⟨rfl,_,_,rfl,by lia,by assumption,by lia,fun i hi=>up i _ (by exact Nat.le_of_lt_succ ‹_›) (by lia) e,h5⟩
    |false=>exact⟨rfl,_,_,rfl,by exact tv _ _,by lia,by lia,h4,fun i hi hn=>dn _ i hi hn e⟩
 cases eh:jD O key left k arr base hint with
 |true=>
  dsimp only
  rw[if_pos rfl]
  refine wpS_bind (wpS_mono (wpS_forRange (I:=fun x c st'=>st'=st∧∃l o,c=(none,l,o)∧l < o∧x < o∧hint+l < n∧jD O key left k arr base (hint+l)=true)
   (Q:=fun c st'=>st'=st∧∃l o,c=(none,l,o)∧l < o∧hint+l < n∧jD O key left k arr base (hint+l)=true∧(n - hint≤o∨jD O key left k arr base (hint+o)=false)) ?s1 ?s2 ⟨rfl,0,1,rfl,by exact zzA _,by exact zzA _,by assumption,eh⟩) ?s3)
  case s2=>
   rintro c st' ⟨rfl,l,o,rfl,h1,h2,h3,h4⟩
   exact⟨rfl,l,o,rfl,h1,h3,h4,.inl (by lia)⟩
  case s1=>
   rintro x c st' - hx ⟨rfl,l,o,rfl,h1,h2,h3,h4⟩
   dsimp only
   by_cases z:o≥n - hint
   ·rw[if_pos z]
    exact wpS_pure ⟨rfl,l,o,rfl,h1,h3,h4,.inl z⟩
   ·rw[if_neg z]
    refine wpS_bind (bey (by lia) ?_)
    cases e:jD O key left k arr base (hint+o)with
    |true=>exact wpS_pure ⟨rfl,o,2*o+1,rfl,by lia,by lia,by lia,e⟩
    |false=>exact wpS_pure ⟨rfl,l,o,rfl,h1,h3,h4,.inr e⟩
  case s3=>
   rintro c st' ⟨rfl,l,o,rfl,h1,h3,h4,h5⟩
   dsimp only
   have f1:hint+l+1≤hint+min o (n - hint):=by lia
   have f2:hint+min o (n - hint)≤n:=by lia
   have f3:∀i,i < hint+l+1→jD O key left k arr base i=true:=fun i hi=>up i _ (by exact Nat.le_of_lt_succ ‹_›) h3 h4
   have f4:∀i,hint+min o (n - hint)≤i→i < n→jD O key left k arr base i=false:=fun i hi hn=>by
    rcases h5 with h5 |h5
    ·lia
    ·exact dn (hint+o) i (by lia) hn h5
   revert f1 f2 f3 f4
   generalize hint+l+1=lo
   generalize hint+min o (n - hint)=hi
   refine fin (fun lo hq=>wpS_pure hq) (fun x lo hi R hz hR=>?_) (fun x lo hi R hz hn hR=>?_) lo hi
   ·dsimp only
    rw[if_pos hz]
    exact wpS_pure hR
   ·dsimp only
    rw[if_neg (by exact Nat.not_le.mpr ‹_›)]
    refine wpS_bind (bey (by lia) ?_)
    cases e:jD O key left k arr base (lo+(hi - lo) / 2)with
    |true=>rw[e]at hR;exact wpS_pure hR
    |false=>rw[e]at hR;exact wpS_pure hR
 |false=>
  dsimp only
  rw[if_neg (by simp)]
  refine wpS_bind (wpS_mono (wpS_forRange (I:=fun x c st'=>st'=st∧∃l o,c=(none,l,o)∧l < o∧x < o∧l≤hint∧jD O key left k arr base (hint - l)=false)
   (Q:=fun c st'=>st'=st∧∃l o,c=(none,l,o)∧l < o∧l≤hint∧jD O key left k arr base (hint - l)=false∧(hint+1≤o∨jD O key left k arr base (hint - o)=true)) ?s1 ?s2 ⟨rfl,0,1,rfl,by exact zzA _,by exact zzA _,by exact pT _,eh⟩) ?s3)
  case s2=>
   rintro c st' ⟨rfl,l,o,rfl,h1,h2,h3,h4⟩
   exact⟨rfl,l,o,rfl,h1,h3,h4,.inl (by lia)⟩
  case s1=>
   rintro x c st' - hx ⟨rfl,l,o,rfl,h1,h2,h3,h4⟩
   dsimp only
   by_cases z:o≥hint+1
   ·rw[if_pos z]
    exact wpS_pure ⟨rfl,l,o,rfl,h1,h3,h4,.inl z⟩
   ·rw[if_neg z]
    refine wpS_bind (bey (by exact yX (Nat.sub_le _ _) ‹_›) ?_)
    cases e:jD O key left k arr base (hint - o)with
    |false=>exact wpS_pure ⟨rfl,o,2*o+1,rfl,by lia,by lia,by exact Nat.le_of_not_lt ‹_›,e⟩
    |true=>exact wpS_pure ⟨rfl,l,o,rfl,h1,h3,h4,.inr e⟩
  case s3=>
   rintro c st' ⟨rfl,l,o,rfl,h1,h3,h4,h5⟩
   dsimp only
   have f1:hint+1 - min o (hint+1)≤hint - l:=by omega
   have f2:hint - l≤n:=by lia
   have f3:∀i,i < hint+1 - min o (hint+1)→jD O key left k arr base i=true:=fun i hi=>by
    rcases h5 with h5 |h5
    ·lia
    ·exact up i (hint - o) (by lia) (by exact yX (Nat.sub_le _ _) ‹_›) h5
   have f4:∀i,hint - l≤i→i < n→jD O key left k arr base i=false:=fun i hi hn=>dn _ i hi hn h4
   revert f1 f2 f3 f4
   generalize hint+1 - min o (hint+1)=lo
   generalize hint - l=hi
   refine fin (fun lo hq=>wpS_pure hq) (fun x lo hi R hz hR=>?_) (fun x lo hi R hz hn hR=>?_) lo hi
   ·dsimp only
    rw[if_pos hz]
    exact wpS_pure hR
   ·dsimp only
    rw[if_neg (by exact Nat.not_le.mpr ‹_›)]
    refine wpS_bind (bey (by lia) ?_)
    cases e:jD O key left k arr base (lo+(hi - lo) / 2)with
    |true=>rw[e]at hR;exact wpS_pure hR
    |false=>rw[e]at hR;exact wpS_pure hR
end
end NhLS
namespace NhLS
set_option autoImplicit false
open PySem PyProof.Rows
def Le(O:KeyOrd)(key:Keyed→O.α)(x y:Keyed):Prop:=O.blt (key y) (key x)=false
structure G (le:Keyed→Keyed→Prop) (T out ra rb:List Keyed):Prop where
 perm:(out++(ra++rb)).Perm T
 pa:(out++ra).Pairwise le
 pb:(out++rb).Pairwise le
def jM(le:Keyed→Keyed→Prop)(T l:List Keyed):Prop:=l.Perm T∧l.Pairwise le
section
variable {le:Keyed→Keyed→Prop} {T out ra rb p:List Keyed}
theorem G.takeA(g:G le T out (p++ra) rb)(h:∀x∈p,∀y∈rb,le x y):G le T (out++p) ra rb where
 perm:=by have:=g.perm;simpa[n8]using this
 pa:=by have:=g.pa;simpa[n8]using this
 pb:=by
  have h1:=g.pa
  have h2:=g.pb
  simp only[List.pairwise_append,Zai]at h1 h2 ⊢
  refine⟨⟨h1.1,h1.2.1.1,fun x hx y hy=>h1.2.2 x hx y (.inl hy)⟩,h2.2.1,fun x hx y hy=>?_⟩
  rcases hx with hx |hx
  ·exact h2.2.2 x hx y hy
  ·exact h x hx y hy
theorem G.takeB(g:G le T out ra (p++rb))(h:∀x∈p,∀y∈ra,le x y):G le T (out++p) ra rb where
 perm:=by
  refine List.Perm.trans ?_ g.perm
  rw[n8]
  refine List.Perm.append_left _ ?_
  rw[←n8,←n8]
  exact List.Perm.append_right _ List.perm_append_comm
 pb:=by have:=g.pb;simpa[n8]using this
 pa:=by
  have h1:=g.pa
  have h2:=g.pb
  simp only[List.pairwise_append,Zai]at h1 h2 ⊢
  refine⟨⟨h2.1,h2.2.1.1,fun x hx y hy=>h2.2.2 x hx y (.inl hy)⟩,h1.2.1,fun x hx y hy=>?_⟩
  rcases hx with hx |hx
  ·exact h1.2.2 x hx y hy
  ·exact h x hx y hy
theorem G.endA(g:G le T out ra []):jM le T (out++ra):=⟨by have:=g.perm;simpa using this,g.pa⟩
theorem G.endB(g:G le T out [] rb):jM le T (out++rb):=⟨by have:=g.perm;simpa using this,g.pb⟩
end
section
variable {O:KeyOrd} {key:Keyed→O.α} {a b:Array Keyed} {T:List Keyed} {out:Array Keyed} {i j ia ib k:Nat} {x y z:Keyed}
theorem Le.refl(x:Keyed):Le O key x x:=O.irrefl _
theorem Le.trans(h1:Le O key x y)(h2:Le O key y z):Le O key x z:=KeyOrd.kle_trans (O:=O) (a:=key x) (b:=key y) (c:=key z) h1 h2
theorem Le.of(h:O.blt (key x) (key y)=true):Le O key x y:=KeyOrd.klt_asymm (O:=O) h
theorem j8(h:i < a.toList.length):a.toList[i]=at' a i:=by
 have h':i < a.size:=by simpa using h
 simp[at',Array.getD,h']
theorem vL(h:y∈a.toList.drop i):∃j,i≤j∧j < a.size∧y=at' a j:=by
 obtain⟨j,hj,e⟩:=List.mem_iff_getElem.mp h
 rw[List.length_drop,Zb]at hj
 refine⟨i+j,by exact tv _ _,by exact Nat.add_lt_of_lt_sub' ‹_›,?_⟩
 rw[List.getElem_drop]at e
 rw[←e,j8]
theorem ni(h:i < a.size):at' a i∈a.toList:=by
 rw[←j8 (by simpa using h)]
 exact List.getElem_mem _
theorem um(pa:a.toList.Pairwise (Le O key))(h:i≤j)(hj:j < a.size):Le O key (at' a i) (at' a j):=by
 by_cases e:i=j
 ·rw[e];exact Le.refl _
 ·have:=List.pairwise_iff_getElem.mp pa i j (by simp;exact yX ‹_› ‹_›) (by simpa using hj) (by exact zz9 ‹_› ‹_›)
  rw[j8,j8]at this
  exact this
theorem xA(pa:a.toList.Pairwise (Le O key))(h:y∈a.toList.drop i):Le O key (at' a i) y:=by
 obtain⟨j,h1,h2,rfl⟩:=vL h
 exact um pa h1 h2
theorem Ba(h:i < a.size):a.toList.drop i=[at' a i]++a.toList.drop (i+1):=by
 rw[List.drop_eq_getElem_cons (by simpa using h),j8]
 rfl
theorem Bc(k:Nat):a.toList.drop i=(a.extract i (i+k)).toList++a.toList.drop (i+k):=by
 rw[Array.toList_extract,List.extract_eq_take_drop,Dq,←List.drop_drop,List.take_append_drop]
theorem o_:(a.extract i).toList=a.toList.drop i:=by
 rw[Array.toList_extract,List.extract_eq_take_drop]
 exact List.take_of_length_le (by simp)
theorem vM(h:a.size≤i):a.toList.drop i=[]:=List.drop_eq_nil_of_le (by simpa using h)
theorem EJ(h:x∈(a.extract i (i+k)).toList):∃j,j < k∧i+j < a.size∧x=at' a (i+j):=by
 rw[Array.toList_extract,List.extract_eq_take_drop,Dq]at h
 obtain⟨j,hj,e⟩:=List.mem_iff_getElem.mp h
 rw[List.length_take,List.length_drop,Zb]at hj
 refine⟨j,by lia,by lia,?_⟩
 rw[List.getElem_take,List.getElem_drop]at e
 rw[←e,j8]
theorem G.pushA(g:G (Le O key) T out.toList (a.toList.drop ia) (b.toList.drop ib))(h:ia < a.size)(hl:∀y∈b.toList.drop ib,Le O key (at' a ia) y):G (Le O key) T (out.push (at' a ia)).toList (a.toList.drop (ia+1)) (b.toList.drop ib):=by
 rw[Ba h]at g
 rw[Array.toList_push]
 exact g.takeA fun x hx y hy=>by rw[Zaf.mp hx];exact hl y hy
theorem G.pushB(g:G (Le O key) T out.toList (a.toList.drop ia) (b.toList.drop ib))(h:ib < b.size)(hl:∀y∈a.toList.drop ia,Le O key (at' b ib) y):G (Le O key) T (out.push (at' b ib)).toList (a.toList.drop ia) (b.toList.drop (ib+1)):=by
 rw[Ba h]at g
 rw[Array.toList_push]
 exact g.takeB fun x hx y hy=>by rw[Zaf.mp hx];exact hl y hy
theorem G.blkA(g:G (Le O key) T out.toList (a.toList.drop ia) (b.toList.drop ib))(k:Nat)(hl:∀j,j < k→ia+j < a.size→∀y∈b.toList.drop ib,Le O key (at' a (ia+j)) y):G (Le O key) T (out++a.extract ia (ia+k)).toList (a.toList.drop (ia+k)) (b.toList.drop ib):=by
 rw[Bc k]at g
 rw[yO]
 exact g.takeA fun x hx y hy=>by obtain⟨j,h1,h2,rfl⟩:=EJ hx;exact hl j h1 h2 y hy
theorem G.blkB(g:G (Le O key) T out.toList (a.toList.drop ia) (b.toList.drop ib))(k:Nat)(hl:∀j,j < k→ib+j < b.size→∀y∈a.toList.drop ia,Le O key (at' b (ib+j)) y):G (Le O key) T (out++b.extract ib (ib+k)).toList (a.toList.drop ia) (b.toList.drop (ib+k)):=by
 rw[Bc (a:=b) k]at g
 rw[yO]
 exact g.takeB fun x hx y hy=>by obtain⟨j,h1,h2,rfl⟩:=EJ hx;exact hl j h1 h2 y hy
theorem G.doneB(g:G (Le O key) T out.toList (a.toList.drop ia) (b.toList.drop ib))(h:b.size≤ib):jM (Le O key) T (out++a.extract ia++b.extract ib).toList:=by
 rw[yO,yO,o_,o_,vM h,oS]
 rw[vM h]at g
 exact g.endA
theorem G.doneA(g:G (Le O key) T out.toList (a.toList.drop ia) (b.toList.drop ib))(h:a.size≤ia):jM (Le O key) T (out++a.extract ia++b.extract ib).toList:=by
 rw[yO,yO,o_,o_,vM h,oS]
 rw[vM h]at g
 exact g.endB
theorem G.lastA(g:G (Le O key) T out.toList (a.toList.drop ia) (b.toList.drop ib))(h:ia+1=a.size)(h1:∀y∈b.toList,Le O key y (at' a (a.size - 1))):jM (Le O key) T (out++b.extract ib++a.extract ia).toList:=by
 rw[yO,yO,o_,o_]
 have g':G (Le O key) T out.toList (a.toList.drop ia) (b.toList.drop ib++[]):=by rw[oS];exact g
 refine(g'.takeB fun x hx y hy=>?_).endA
 obtain⟨j,q1,q2,rfl⟩:=vL hy
 rw[show j=a.size - 1 by lia]
 exact h1 x (List.mem_of_mem_drop hx)
end
def SS(st st':SortSt):Prop:=∃g,st'=SortSt.mk' (kindOf st) (arrOf st) (pendingOf st) g (failedOf st)
theorem SS.refl(st:SortSt):SS st st:=⟨gallopOf st,rfl⟩
theorem SS.kind{st st':SortSt}(h:SS st st'):kindOf st'=kindOf st:=by obtain⟨g,rfl⟩:=h;rfl
section
variable {prog:Program} {w:World} {A:Around} {E:Value→Shared→Prop} {s:Shared} {κ:SortKind} {O:KeyOrd} {key:Keyed→O.α} {dom:Keyed→Prop} {st:SortSt}
def Lo:Nat→StateT SortSt Sem Unit:=sortPriv% PySem.Builtin.setMinGallop
theorem vN{st':SortSt}{g:Nat}{Q:Unit→SortSt→Prop}(hs:SS st st')(h:∀st2,SS st st2→Q () st2):wpS (model prog w) A E s (Lo g) Q st':=
 wpS_modify (h _ (by obtain⟨g',rfl⟩:=hs;exact⟨g,rfl⟩))
theorem bv{c:Prop}[Decidable c]{x y:StateT SortSt Sem α}{Q:α→SortSt→Prop}(hc:c)(h:wpS (model prog w) A E s x Q st):wpS (model prog w) A E s (if c then x else y) Q st:=by rw[if_pos hc];exact h
theorem bn{c:Prop}[Decidable c]{x y:StateT SortSt Sem α}{Q:α→SortSt→Prop}(hc:¬c)(h:wpS (model prog w) A E s y Q st):wpS (model prog w) A E s (if c then x else y) Q st:=by rw[if_neg hc];exact h
theorem JF{m:StateT SortSt Sem α}{Q:α→SortSt→Prop}(h:∀R,R=Q→wpS (model prog w) A E s m R st):wpS (model prog w) A E s m Q st:=h Q rfl
theorem Lp{c:Prop}[Decidable c](f:Nat→StateT SortSt Sem α){x y:Nat}{Q:α→SortSt→Prop}(h:∀m,wpS (model prog w) A E s (f m) Q st):wpS (model prog w) A E s (if c then f x else f y) Q st:=by
 split <;> exact h _
theorem CF(C:Cmp prog w A s κ O key dom){a b:Array Keyed}{Q:Array Keyed→SortSt→Prop}(hk:kindOf st=κ)(da:∀x∈a.toList,dom x)(db:∀x∈b.toList,dom x)(ha:0 < a.size)(hb:0 < b.size)
  (pa:a.toList.Pairwise (Le O key)) (pb:b.toList.Pairwise (Le O key)) (h0:O.blt (key (at' b 0)) (key (at' a 0))=true) (h1:∀y∈b.toList,Le O key y (at' a (a.size - 1)))
  (h:∀r st',SS st st'→jM (Le O key) (a.toList++b.toList) r.toList→Q r st'):wpS (model prog w) A E s (EG a b) Q st:=by
 refine wpS_bind (wpS_lift (wpAny_rule ⟨rfl,?_⟩))
 refine wpS_bind (jf hb ?_)
 obtain⟨T,hT⟩:∃T,T=a.toList++b.toList:=⟨_,rfl⟩
 rw[←hT]at h
 have g0:G (Le O key) T (#[at' b 0]:Array Keyed).toList (a.toList.drop 0) (b.toList.drop 1):=by
  have q:G (Le O key) T (#[]:Array Keyed).toList (a.toList.drop 0) (b.toList.drop 0):=⟨by simp[hT],by simpa using pa,by simpa using pb⟩
  exact q.pushB hb fun y hy=>(Le.of h0).trans (xA pa hy)
 have dA:∀i,i < a.size→dom (at' a i):=fun i hi=>da _ (ni hi)
 have dB:∀i,i < b.size→dom (at' b i):=fun i hi=>db _ (ni hi)
 extract_lets o0 i0 i1
 by_cases e1:(1 == b.size)=true
 ·refine bv e1 ?_
  exact wpS_pure (h _ st (SS.refl _) (g0.doneB (by simp at e1;exact Nat.le_of_eq (Eq.symm ‹_›))))
 refine bn e1 ?_
 by_cases e2:(0+1 == a.size)=true
 ·refine bv e2 ?_
  exact wpS_pure (h _ st (SS.refl _) (g0.lastA (by simpa using e2) h1))
 refine bn e2 ?_
 refine wpS_bind (wpS_get ?_)
 refine wpS_bind (wpS_mono (wpS_forRange (I:=fun x c st'=>SS st st'∧∃out ia ib mg,c=(none,out,ia,ib,mg)∧ia+1 < a.size∧ib < b.size∧x < ia+ib∧G (Le O key) T out.toList (a.toList.drop ia) (b.toList.drop ib))
  (Q:=fun c st'=>SS st st'∧∃r o,c=(some r,o)∧jM (Le O key) T r.toList) ?s1 ?s2 ⟨SS.refl _,_,0,1,_,rfl,by simp at e2;exact zz9 ‹_› ‹_›,by simp at e1;exact zz9 ‹_› ‹_›,by exact zzA _,g0⟩) ?s3)
 case s3=>
  rintro c st' ⟨hs,r,o,rfl,hg⟩
  exact wpS_pure (h r st' hs hg)
 case s2=>
  rintro c st' ⟨hs,out,ia,ib,mg,rfl,q1,q2,q3,g⟩
  lia
 case s1=>
  rintro x c st1 - hx ⟨hs,out,ia,ib,mg,rfl,q1,q2,q3,g⟩
  refine wpS_bind (wpS_mono (wpS_forRange (I:=fun y c st'=>SS st st'∧∃out ia ib ac bc,c=(none,out,ia,ib,ac,bc)∧ia+1 < a.size∧ib < b.size∧x < ia+ib∧(y=0∨x+1 < ia+ib)∧G (Le O key) T out.toList (a.toList.drop ia) (b.toList.drop ib))
   (Q:=fun c st'=>SS st st'∧((∃r o,c=(some r,o)∧jM (Le O key) T r.toList)∨∃out ia ib ac bc,c=(none,out,ia,ib,ac,bc)∧ia+1 < a.size∧ib < b.size∧x+1 < ia+ib∧G (Le O key) T out.toList (a.toList.drop ia) (b.toList.drop ib))) ?t1 ?t2 ⟨hs,out,ia,ib,0,0,rfl,q1,q2,q3,.inl rfl,g⟩) ?t3)
  case t2=>
   rintro c st' ⟨hs,out,ia,ib,ac,bc,rfl,q1,q2,q3,q4,g⟩
   exact⟨hs,.inr ⟨out,ia,ib,ac,bc,rfl,q1,q2,by lia,g⟩⟩
  case t1=>
   rintro y c st2 - hy ⟨hs,out,ia,ib,ac,bc,rfl,q1,q2,q3,q4,g⟩
   have q0:ia < a.size:=by exact Nat.lt_of_succ_lt ‹_›
   refine wpS_bind (jf q2 ?_)
   refine wpS_bind (jf q0 ?_)
   refine wpS_bind (EI C (hs.kind.trans hk) (dB _ q2) (dA _ q0) ?_)
   cases e:O.blt (key (at' b ib)) (key (at' a ia))with
   |true=>
    refine wpS_bind (jf q2 ?_)
    have g':=g.pushB q2 (fun y hy=>(Le.of e).trans (xA pa hy))
    by_cases z:(ib+1 == b.size)=true
    ·exact bv z (wpS_pure ⟨hs,.inl ⟨_,_,rfl,g'.doneB (by simp at z;exact Nat.le_of_eq (Eq.symm ‹_›))⟩⟩)
    ·refine bn z ?_
     have z':ib+1 < b.size:=by simp at z;exact zz9 ‹_› ‹_›
     dsimp only
     split
     ·exact wpS_pure ⟨hs,.inr ⟨_,_,_,_,_,rfl,q1,z',by exact Nat.succ_lt_succ ‹_›,g'⟩⟩
     ·exact wpS_pure ⟨hs,_,_,_,_,_,rfl,q1,z',by exact yP ‹_›,.inr (by exact Nat.succ_lt_succ ‹_›),g'⟩
   |false=>
    refine wpS_bind (jf q0 ?_)
    have g':=g.pushA (by assumption) (fun y hy=>Le.trans e (xA pb hy))
    by_cases z:(ia+1+1 == a.size)=true
    ·exact bv z (wpS_pure ⟨hs,.inl ⟨_,_,rfl,g'.lastA (by simpa using z) h1⟩⟩)
    ·refine bn z ?_
     have z':ia+1+1 < a.size:=by simp at z;exact zz9 ‹_› ‹_›
     dsimp only
     split
     ·exact wpS_pure ⟨hs,.inr ⟨_,_,_,_,_,rfl,z',q2,by lia,g'⟩⟩
     ·exact wpS_pure ⟨hs,_,_,_,_,_,rfl,z',q2,by lia,.inr (by lia),g'⟩
  case t3=>
   rintro c st2 ⟨hs,⟨r,o,rfl,hg⟩ |⟨out,ia,ib,ac,bc,rfl,q1,q2,q3,g⟩⟩
   ·exact wpS_pure ⟨hs,r,_,rfl,hg⟩
   ·refine wpS_bind (wpS_lift (wpAny_rule ⟨rfl,?_⟩))
    refine wpS_bind (wpS_mono (wpS_forRange (I:=fun y c st'=>SS st st'∧∃out ia ib mg ac bc,c=(none,out,ia,ib,mg,ac,bc)∧ia+1 < a.size∧ib < b.size∧x+1 < ia+ib∧G (Le O key) T out.toList (a.toList.drop ia) (b.toList.drop ib))
     (Q:=fun c st'=>SS st st'∧((∃r o,c=(some r,o)∧jM (Le O key) T r.toList)∨∃out ia ib mg ac bc,c=(none,out,ia,ib,mg,ac,bc)∧ia+1 < a.size∧ib < b.size∧x+1 < ia+ib∧G (Le O key) T out.toList (a.toList.drop ia) (b.toList.drop ib))) ?u1 ?u2 ⟨hs,out,ia,ib,_,ac,bc,rfl,q1,q2,q3,g⟩) ?u3)
    case u2=>
     rintro c st' ⟨hs,out,ia,ib,mg,ac,bc,rfl,q1,q2,q3,g⟩
     exact⟨hs,.inr ⟨out,ia,ib,mg,ac,bc,rfl,q1,q2,by assumption,g⟩⟩
    case u3=>
     rintro c st3 ⟨hs,⟨r,o,rfl,hg⟩ |⟨out,ia,ib,mg,ac,bc,rfl,q1,q2,q3,g⟩⟩
     ·exact wpS_pure ⟨hs,r,_,rfl,hg⟩
     ·exact wpS_bind (vN hs fun st4 h4=>wpS_pure ⟨h4,out,ia,ib,_,rfl,q1,q2,q3,g⟩)
    case u1=>
     rintro y c st3 - hy ⟨hs,out,ia,ib,mg,ac,bc,rfl,q1,q2,q3,g⟩
     refine JF fun R hR=>?_
     have Rd:∀r o st',SS st st'→jM (Le O key) T r.toList→R (.done (some r,o)) st':=fun r o st' a1 a2=>by rw[hR];exact⟨a1,.inl ⟨r,o,rfl,a2⟩⟩
     have Rn:∀out ia ib mg ac bc st',SS st st'→ia+1 < a.size→ib < b.size→x+1 < ia+ib→G (Le O key) T out.toList (a.toList.drop ia) (b.toList.drop ib)→R (.done (none,out,ia,ib,mg,ac,bc)) st':=
      fun out ia ib mg ac bc st' a1 a2 a3 a4 a5=>by rw[hR];exact⟨a1,.inr ⟨_,_,_,_,_,_,rfl,a2,a3,a4,a5⟩⟩
     have Ry:∀out ia ib mg ac bc st',SS st st'→ia+1 < a.size→ib < b.size→x+1 < ia+ib→G (Le O key) T out.toList (a.toList.drop ia) (b.toList.drop ib)→R (.yield (none,out,ia,ib,mg,ac,bc)) st':=
      fun out ia ib mg ac bc st' a1 a2 a3 a4 a5=>by rw[hR];exact⟨a1,_,_,_,_,_,_,rfl,a2,a3,a4,a5⟩
     clear hR
     extract_lets
     rename Unit→Nat→_=>jp
     refine Lp (jp ()) fun mg'=>?_
     refine wpS_bind (vN hs fun st4 h4=>?_)
     refine wpS_bind (jf q2 ?_)
     refine wpS_bind (j7 C (base:=ia) (n:=a.size - ia) (hint:=0) (h4.kind.trans hk) (by exact Nat.sub_pos_of_lt (Nat.lt_of_succ_lt ‹_›)) (by exact Nat.le_of_eq (zzD (mY (Nat.lt_of_succ_lt ‹_›)))) (dB _ q2) dA ?m1 fun k hk1 hk2 hk3=>?_)
     case m1=>
      intro i j hij hj e
      simp only[jD,BO,gv]at e ⊢
      exact(um pa (by lia) (by exact Nat.add_lt_of_lt_sub' ‹_›):Le O key (at' a (ia+i)) (at' a (ia+j))).trans e
     simp only[jD,BO,Bool.not_eq_false',gv]at hk2 hk3
     dsimp -zeta only
     extract_lets
     rename Unit→Array Keyed→Nat→_=>jp1
     have J1:∀(out:Array Keyed) (ia:Nat),ia+1 < a.size→x+1 < ia+ib→G (Le O key) T out.toList (a.toList.drop ia) (b.toList.drop ib)→(∀y∈a.toList.drop ia,Le O key (at' b ib) y)→wpS (model prog w) A E s (jp1 () out ia) R st4:=by
      intro out ia q1 q3 g hl
      have q0:ia < a.size:=by exact Nat.lt_of_succ_lt ‹_›
      refine wpS_bind (jf q2 ?_)
      have g':=g.pushB q2 hl
      by_cases z:(ib+1 == b.size)=true
      ·exact bv z (wpS_pure (Rd _ _ _ h4 (g'.doneB (by simp at z;exact Nat.le_of_eq (Eq.symm ‹_›)))))
      refine bn z ?_
      have z':ib+1 < b.size:=by simp at z;exact zz9 ‹_› ‹_›
      refine wpS_bind (jf q0 ?_)
      refine wpS_bind (j7 C (base:=ib+1) (n:=b.size - (ib+1)) (hint:=0) (h4.kind.trans hk) (by exact Nat.sub_pos_of_lt ‹_›) (by exact Nat.le_of_eq (zzD ‹_›)) (dA _ q0) dB ?m2 fun k' hk1' hk2' hk3'=>?_)
      case m2=>
       intro i j hij hj e
       simp only[jD,if_true]at e ⊢
       exact KeyOrd.klt_of_kle_of_klt (O:=O) (um pb (by lia) (by exact Nat.add_lt_of_lt_sub' ‹_›):Le O key (at' b (ib+1+i)) (at' b (ib+1+j))) e
      simp only[jD,if_true]at hk2' hk3'
      dsimp -zeta only
      extract_lets
      rename Unit→Array Keyed→Nat→_=>jp2
      have J2:∀(out:Array Keyed) (ib':Nat),ib' < b.size→x+1 < ia+ib'→G (Le O key) T out.toList (a.toList.drop ia) (b.toList.drop ib')→(∀y∈b.toList.drop ib',Le O key (at' a ia) y)→wpS (model prog w) A E s (jp2 () out ib') R st4:=by
       intro out ib' p2 p3 g hl
       refine wpS_bind (jf q0 ?_)
       have g':=g.pushA q0 hl
       by_cases z:(ia+1+1 == a.size)=true
       ·exact bv z (wpS_pure (Rd _ _ _ h4 (g'.lastA (by simpa using z) h1)))
       refine bn z ?_
       have z':ia+1+1 < a.size:=by simp at z;exact zz9 ‹_› ‹_›
       by_cases z2:(decide (k < 7)&&decide (k' < 7))=true
       ·exact bv z2 (wpS_pure (Rn _ _ _ _ _ _ _ h4 z' p2 (by lia) g'))
       ·exact bn z2 (wpS_pure (Ry _ _ _ _ _ _ _ h4 z' p2 (by lia) g'))
      clear_value jp2
      have tl:∀y∈b.toList.drop (ib+1+k'),Le O key (at' a ia) y:=fun y hy=>by
       obtain⟨j,r1,r2,rfl⟩:=vL hy
       have:=hk3' (j - (ib+1)) (by exact Nat.le_sub_of_add_le' ‹_›) (by exact Nat.sub_lt_sub_right (jS (tv _ _) ‹_›) ‹_›)
       rwa [show ib+1+(j - (ib+1))=j by exact zzD (jS (tv _ _) ‹_›)]at this
      by_cases z2:k' > 0
      ·refine bv z2 ?_
       have g2:=g'.blkB k' fun j j1 j2 y hy=>(Le.of (hk2' j j1)).trans (xA pa hy)
       by_cases z3:(ib+1+k' == b.size)=true
       ·exact bv z3 (wpS_pure (Rd _ _ _ h4 (g2.doneB (by simp at z3;exact Nat.le_of_eq (Eq.symm ‹_›)))))
       ·exact bn z3 (J2 _ (ib+1+k') (by simp at z3;lia) (by lia) g2 tl)
      ·have k0:k'=0:=by exact Nat.eq_zero_of_not_pos ‹_›
       subst k0
       exact bn z2 (J2 _ (ib+1) z' (by exact yP ‹_›) g' tl)
     clear_value jp1
     have tl:∀y∈a.toList.drop (ia+k),Le O key (at' b ib) y:=fun y hy=>by
      obtain⟨j,r1,r2,rfl⟩:=vL hy
      have:=hk3 (j - ia) (by exact Nat.le_sub_of_add_le' ‹_›) (by exact Nat.sub_lt_sub_right (jS (tv _ _) ‹_›) ‹_›)
      rw[show ia+(j - ia)=j by exact zzD (jS (tv _ _) ‹_›)]at this
      exact Le.of this
     by_cases z2:k > 0
     ·refine bv z2 ?_
      have g2:=g.blkA k fun j j1 j2 y hy=>Le.trans (hk2 j j1) (xA pb hy)
      by_cases z3:(ia+k+1 == a.size)=true
      ·exact bv z3 (wpS_pure (Rd _ _ _ h4 (g2.lastA (by simpa using z3) h1)))
      refine bn z3 ?_
      by_cases z4:(ia+k == a.size)=true
      ·exact bv z4 (wpS_pure (Rd _ _ _ h4 (g2.doneA (by simp at z4;exact Nat.le_of_eq (Eq.symm ‹_›)))))
      ·exact bn z4 (J1 _ (ia+k) (by simp at z3 z4;lia) (by lia) g2 tl)
     ·have k0:k=0:=by exact Nat.eq_zero_of_not_pos ‹_›
      subst k0
      exact bn z2 (J1 _ ia q1 q3 g tl)
end
end NhLS
namespace NhLS
set_option autoImplicit false
open PySem PyProof.Rows
structure H (le:Keyed→Keyed→Prop) (T ra rb out:List Keyed):Prop where
 perm:(ra++rb++out).Perm T
 pa:(ra++out).Pairwise le
 pb:(rb++out).Pairwise le
section
variable {le:Keyed→Keyed→Prop} {T out ra rb p:List Keyed}
theorem H.takeA(g:H le T (ra++p) rb out)(h:∀x∈p,∀y∈rb,le y x):H le T ra rb (p++out) where
 perm:=by
  refine List.Perm.trans ?_ g.perm
  rw[←n8]
  refine List.Perm.append_right _ ?_
  rw[n8,n8]
  exact List.Perm.append_left _ List.perm_append_comm
 pa:=by have:=g.pa;simpa[n8]using this
 pb:=by
  have h1:=g.pa
  have h2:=g.pb
  simp only[List.pairwise_append,Zai]at h1 h2 ⊢
  refine⟨h2.1,⟨h1.1.2.1,h1.2.1,fun x hx y hy=>h1.2.2 x (.inr hx) y hy⟩,fun x hx y hy=>?_⟩
  rcases hy with hy |hy
  ·exact h y hy x hx
  ·exact h2.2.2 x hx y hy
theorem H.takeB(g:H le T ra (rb++p) out)(h:∀x∈p,∀y∈ra,le y x):H le T ra rb (p++out) where
 perm:=by have:=g.perm;simpa[n8]using this
 pb:=by have:=g.pb;simpa[n8]using this
 pa:=by
  have h1:=g.pa
  have h2:=g.pb
  simp only[List.pairwise_append,Zai]at h1 h2 ⊢
  refine⟨h1.1,⟨h2.1.2.1,h2.2.1,fun x hx y hy=>h2.2.2 x (.inr hx) y hy⟩,fun x hx y hy=>?_⟩
  rcases hy with hy |hy
  ·exact h y hy x hx
  ·exact h1.2.2 x hx y hy
theorem H.endA(g:H le T ra [] out):jM le T (ra++out):=⟨by have:=g.perm;simpa using this,g.pa⟩
theorem H.endB(g:H le T [] rb out):jM le T (rb++out):=⟨by have:=g.perm;simpa using this,g.pb⟩
end
section
variable {O:KeyOrd} {key:Keyed→O.α} {a b:Array Keyed} {T:List Keyed} {out:Array Keyed} {i j na nb k:Nat} {x y z:Keyed}
theorem vO(h:y∈a.toList.take i):∃j,j < i∧j < a.size∧y=at' a j:=by
 obtain⟨j,hj,e⟩:=List.mem_iff_getElem.mp h
 rw[List.length_take,Zb]at hj
 refine⟨j,by lia,by lia,?_⟩
 rw[List.getElem_take]at e
 rw[←e,j8]
theorem Bd(pa:a.toList.Pairwise (Le O key))(hi:i < a.size)(h:y∈a.toList.take (i+1)):Le O key y (at' a i):=by
 obtain⟨j,h1,h2,rfl⟩:=vO h
 exact um pa (by exact Nat.le_of_lt_succ ‹_›) hi
theorem Be(h:i < a.size):a.toList.take (i+1)=a.toList.take i++[at' a i]:=by
 rw[List.take_succ_eq_append_getElem (by simpa using h),j8]
theorem vP(h:i≤j):a.toList.take j=a.toList.take i++(a.extract i j).toList:=by
 rw[Array.toList_extract,List.extract_eq_take_drop,←List.take_add]
 congr 1
 lia
theorem pc:(a.extract 0 i).toList=a.toList.take i:=by
 rw[Array.toList_extract,List.extract_eq_take_drop]
 rfl
theorem vQ(h:x∈(a.extract i j).toList):∃k,i≤k∧k < j∧k < a.size∧x=at' a k:=by
 rw[Array.toList_extract,List.extract_eq_take_drop]at h
 obtain⟨k,hk,e⟩:=List.mem_iff_getElem.mp h
 rw[List.length_take,List.length_drop,Zb]at hk
 refine⟨i+k,by exact tv _ _,by lia,by lia,?_⟩
 rw[List.getElem_take,List.getElem_drop]at e
 rw[←e,j8]
theorem H.pushA(g:H (Le O key) T (a.toList.take (na+1)) (b.toList.take nb) out.toList.reverse)(h:na < a.size)(hl:∀y∈b.toList.take nb,Le O key y (at' a na)):H (Le O key) T (a.toList.take na) (b.toList.take nb) (out.push (at' a na)).toList.reverse:=by
 rw[Be h]at g
 rw[Array.toList_push,List.reverse_append]
 exact g.takeA fun x hx y hy=>by rw[Zaf.mp hx];exact hl y hy
theorem H.pushB(g:H (Le O key) T (a.toList.take na) (b.toList.take (nb+1)) out.toList.reverse)(h:nb < b.size)(hl:∀y∈a.toList.take na,Le O key y (at' b nb)):H (Le O key) T (a.toList.take na) (b.toList.take nb) (out.push (at' b nb)).toList.reverse:=by
 rw[Be h]at g
 rw[Array.toList_push,List.reverse_append]
 exact g.takeB fun x hx y hy=>by rw[Zaf.mp hx];exact hl y hy
theorem H.blkA(g:H (Le O key) T (a.toList.take na) (b.toList.take nb) out.toList.reverse)(h:i≤na)(hl:∀j,i≤j→j < na→j < a.size→∀y∈b.toList.take nb,Le O key y (at' a j)):H (Le O key) T (a.toList.take i) (b.toList.take nb) (out++(a.extract i na).reverse).toList.reverse:=by
 rw[vP h]at g
 rw[yO,List.reverse_append,Array.toList_reverse,List.reverse_reverse]
 exact g.takeA fun x hx y hy=>by obtain⟨j,h1,h2,h3,rfl⟩:=vQ hx;exact hl j h1 h2 h3 y hy
theorem H.blkB(g:H (Le O key) T (a.toList.take na) (b.toList.take nb) out.toList.reverse)(h:i≤nb)(hl:∀j,i≤j→j < nb→j < b.size→∀y∈a.toList.take na,Le O key y (at' b j)):H (Le O key) T (a.toList.take na) (b.toList.take i) (out++(b.extract i nb).reverse).toList.reverse:=by
 rw[vP (a:=b) h]at g
 rw[yO,List.reverse_append,Array.toList_reverse,List.reverse_reverse]
 exact g.takeB fun x hx y hy=>by obtain⟨j,h1,h2,h3,rfl⟩:=vQ hx;exact hl j h1 h2 h3 y hy
theorem H.doneA(g:H (Le O key) T (a.toList.take na) (b.toList.take nb) out.toList.reverse)(h:na=0):jM (Le O key) T (a.extract 0 na++b.extract 0 nb++out.reverse).toList:=by
 subst h
 rw[yO,yO,pc,pc,Array.toList_reverse]
 exact g.endB
theorem H.doneB(g:H (Le O key) T (a.toList.take na) (b.toList.take nb) out.toList.reverse)(h:nb=0):jM (Le O key) T (a.extract 0 na++b.extract 0 nb++out.reverse).toList:=by
 subst h
 rw[yO,yO,pc,pc,Array.toList_reverse,List.take_zero,oS]
 exact g.endA
theorem H.firstB(g:H (Le O key) T (a.toList.take na) (b.toList.take nb) out.toList.reverse)(h:nb=1)(h1:∀y∈a.toList,Le O key (at' b 0) y):jM (Le O key) T (b.extract 0 nb++a.extract 0 na++out.reverse).toList:=by
 rw[yO,yO,pc,pc,Array.toList_reverse,n8]
 have g':H (Le O key) T ([]++a.toList.take na) (b.toList.take nb) out.toList.reverse:=g
 refine(g'.takeA fun x hx y hy=>?_).endB
 obtain⟨j,q1,q2,rfl⟩:=vO hy
 rw[show j=0 by lia]
 exact h1 x (List.mem_of_mem_take hx)
end
section
variable {prog:Program} {w:World} {A:Around} {E:Value→Shared→Prop} {s:Shared} {κ:SortKind} {O:KeyOrd} {key:Keyed→O.α} {dom:Keyed→Prop} {st:SortSt}
theorem jN{c:Prop}[Decidable c]{x y:StateT SortSt Sem α}{Q:α→SortSt→Prop}(h1:c→wpS (model prog w) A E s x Q st)(h2:¬c→wpS (model prog w) A E s y Q st):wpS (model prog w) A E s (if c then x else y) Q st:=by
 split
 ·rename_i z;exact h1 z
 ·rename_i z;exact h2 z
theorem CG(C:Cmp prog w A s κ O key dom){a b:Array Keyed}{Q:Array Keyed→SortSt→Prop}(hk:kindOf st=κ)(da:∀x∈a.toList,dom x)(db:∀x∈b.toList,dom x)(ha:0 < a.size)(hb:0 < b.size)
  (pa:a.toList.Pairwise (Le O key)) (pb:b.toList.Pairwise (Le O key)) (h0:∀y∈b.toList,Le O key y (at' a (a.size - 1))) (h1:∀y∈a.toList,Le O key (at' b 0) y)
  (h:∀r st',SS st st'→jM (Le O key) (a.toList++b.toList) r.toList→Q r st'):wpS (model prog w) A E s (EH a b) Q st:=by
 refine wpS_bind (wpS_lift (wpAny_rule ⟨rfl,?_⟩))
 have ha':a.size - 1 < a.size:=by exact Nat.sub_lt ‹_› Nat.one_pos
 refine wpS_bind (jf ha' ?_)
 obtain⟨T,hT⟩:∃T,T=a.toList++b.toList:=⟨_,rfl⟩
 rw[←hT]at h
 have g0:H (Le O key) T (a.toList.take (a.size - 1)) (b.toList.take b.size) (#[at' a (a.size - 1)]:Array Keyed).toList.reverse:=by
  have q:H (Le O key) T (a.toList.take (a.size - 1+1)) (b.toList.take b.size) (#[]:Array Keyed).toList.reverse:=by
   have e1:a.toList.take (a.size - 1+1)=a.toList:=List.take_of_length_le (by simp;lia)
   have e2:b.toList.take b.size=b.toList:=List.take_of_length_le (by simp)
   rw[e1,e2]
   exact⟨by simp[hT],by simpa using pa,by simpa using pb⟩
  exact q.pushA ha' fun y hy=>h0 y (List.mem_of_mem_take hy)
 have dA:∀i,i < a.size→dom (at' a i):=fun i hi=>da _ (ni hi)
 have dB:∀i,i < b.size→dom (at' b i):=fun i hi=>db _ (ni hi)
 by_cases e1:(a.size - 1 == 0)=true
 ·refine bv e1 ?_
  exact wpS_pure (h _ st (SS.refl _) (g0.doneA (by simpa using e1)))
 refine bn e1 ?_
 by_cases e2:(b.size == 1)=true
 ·refine bv e2 ?_
  exact wpS_pure (h _ st (SS.refl _) (g0.firstB (by simpa using e2) h1))
 refine bn e2 ?_
 refine wpS_bind (wpS_get ?_)
 refine wpS_bind (wpS_mono (wpS_forRange (I:=fun x c st'=>SS st st'∧∃na nb out mg,c=(none,na,nb,out,mg)∧na≤a.size∧1≤na∧nb≤b.size∧2≤nb∧na+nb+x < a.size+b.size∧H (Le O key) T (a.toList.take na) (b.toList.take nb) out.toList.reverse)
  (Q:=fun c st'=>SS st st'∧∃r o,c=(some r,o)∧jM (Le O key) T r.toList) ?s1 ?s2 ⟨SS.refl _,a.size - 1,b.size,_,_,rfl,by exact Nat.sub_le _ _,by simp at e1;exact Nat.pos_of_ne_zero ‹_›,by exact gR _,by simp at e2;lia,by lia,g0⟩) ?s3)
 case s3=>
  rintro c st' ⟨hs,r,o,rfl,hg⟩
  exact wpS_pure (h r st' hs hg)
 case s2=>
  rintro c st' ⟨hs,na,nb,out,mg,rfl,p1,q1,p2,q2,q3,g⟩
  lia
 case s1=>
  rintro x c st1 - hx ⟨hs,na,nb,out,mg,rfl,p1,q1,p2,q2,q3,g⟩
  refine wpS_bind (wpS_mono (wpS_forRange (I:=fun y c st'=>SS st st'∧∃na nb out ac bc,c=(none,na,nb,out,ac,bc)∧na≤a.size∧1≤na∧nb≤b.size∧2≤nb∧na+nb+x < a.size+b.size∧(y=0∨na+nb+(x+1) < a.size+b.size)∧H (Le O key) T (a.toList.take na) (b.toList.take nb) out.toList.reverse)
   (Q:=fun c st'=>SS st st'∧((∃r o,c=(some r,o)∧jM (Le O key) T r.toList)∨∃na nb out ac bc,c=(none,na,nb,out,ac,bc)∧na≤a.size∧1≤na∧nb≤b.size∧2≤nb∧na+nb+(x+1) < a.size+b.size∧H (Le O key) T (a.toList.take na) (b.toList.take nb) out.toList.reverse)) ?t1 ?t2 ⟨hs,na,nb,out,0,0,rfl,p1,q1,p2,q2,q3,.inl rfl,g⟩) ?t3)
  case t2=>
   rintro c st' ⟨hs,na,nb,out,ac,bc,rfl,p1,q1,p2,q2,q3,q4,g⟩
   exact⟨hs,.inr ⟨na,nb,out,ac,bc,rfl,p1,q1,p2,q2,by lia,g⟩⟩
  case t1=>
   rintro y c st2 - hy ⟨hs,na,nb,out,ac,bc,rfl,p1,q1,p2,q2,q3,q4,g⟩
   obtain⟨na,rfl⟩:∃n,na=n+1:=⟨na - 1,by exact(Nat.sub_add_cancel ‹_›).symm⟩
   obtain⟨nb,rfl⟩:∃n,nb=n+1:=⟨nb - 1,by lia⟩
   have p1':na < a.size:=by assumption
   have p2':nb < b.size:=by assumption
   refine wpS_bind (jf p2' ?_)
   refine wpS_bind (jf p1' ?_)
   refine wpS_bind (EI C (hs.kind.trans hk) (dB _ p2') (dA _ p1') ?_)
   simp only[Nat.add_sub_cancel]
   cases e:O.blt (key (at' b nb)) (key (at' a na))with
   |true=>
    refine wpS_bind (jf p1' ?_)
    have g':=g.pushA p1' (fun y hy=>(Bd pb p2' hy).trans (Le.of e))
    by_cases z:(na == 0)=true
    ·exact bv z (wpS_pure ⟨hs,.inl ⟨_,_,rfl,g'.doneA (by simpa using z)⟩⟩)
    ·refine bn z ?_
     have z':1≤na:=by simp at z;exact Nat.pos_of_ne_zero ‹_›
     split
     ·exact wpS_pure ⟨hs,.inr ⟨na,nb+1,_,_,_,rfl,by exact mY ‹_›,z',p2,q2,by lia,g'⟩⟩
     ·exact wpS_pure ⟨hs,na,nb+1,_,_,_,rfl,by exact mY ‹_›,z',p2,q2,by lia,.inr (by lia),g'⟩
   |false=>
    refine wpS_bind (jf p2' ?_)
    have g':=g.pushB p2' (fun y hy=>(Bd pa p1' hy).trans e)
    by_cases z:(nb == 1)=true
    ·exact bv z (wpS_pure ⟨hs,.inl ⟨_,_,rfl,g'.firstB (by simpa using z) h1⟩⟩)
    ·refine bn z ?_
     have z':2≤nb:=by simp at z;lia
     split
     ·exact wpS_pure ⟨hs,.inr ⟨na+1,nb,_,_,_,rfl,p1,q1,by exact mY ‹_›,z',by lia,g'⟩⟩
     ·exact wpS_pure ⟨hs,na+1,nb,_,_,_,rfl,p1,q1,by exact mY ‹_›,z',by lia,.inr (by lia),g'⟩
  case t3=>
   rintro c st2 ⟨hs,⟨r,o,rfl,hg⟩ |⟨na,nb,out,ac,bc,rfl,p1,q1,p2,q2,q3,g⟩⟩
   ·exact wpS_pure ⟨hs,r,_,rfl,hg⟩
   ·refine wpS_bind (wpS_lift (wpAny_rule ⟨rfl,?_⟩))
    refine wpS_bind (wpS_mono (wpS_forRange (I:=fun y c st'=>SS st st'∧∃na nb out mg ac bc,c=(none,na,nb,out,mg,ac,bc)∧na≤a.size∧1≤na∧nb≤b.size∧2≤nb∧na+nb+(x+1) < a.size+b.size∧H (Le O key) T (a.toList.take na) (b.toList.take nb) out.toList.reverse)
     (Q:=fun c st'=>SS st st'∧((∃r o,c=(some r,o)∧jM (Le O key) T r.toList)∨∃na nb out mg ac bc,c=(none,na,nb,out,mg,ac,bc)∧na≤a.size∧1≤na∧nb≤b.size∧2≤nb∧na+nb+(x+1) < a.size+b.size∧H (Le O key) T (a.toList.take na) (b.toList.take nb) out.toList.reverse)) ?u1 ?u2 ⟨hs,na,nb,out,_,ac,bc,rfl,p1,q1,p2,q2,q3,g⟩) ?u3)
    case u2=>
     rintro c st' ⟨hs,na,nb,out,mg,ac,bc,rfl,p1,q1,p2,q2,q3,g⟩
     exact⟨hs,.inr ⟨na,nb,out,mg,ac,bc,rfl,p1,q1,p2,q2,by assumption,g⟩⟩
    case u3=>
     rintro c st3 ⟨hs,⟨r,o,rfl,hg⟩ |⟨na,nb,out,mg,ac,bc,rfl,p1,q1,p2,q2,q3,g⟩⟩
     ·exact wpS_pure ⟨hs,r,_,rfl,hg⟩
     ·exact wpS_bind (vN hs fun st4 h4=>wpS_pure ⟨h4,na,nb,out,_,rfl,p1,q1,p2,q2,q3,g⟩)
    case u1=>
     rintro y c st3 - hy ⟨hs,na,nb,out,mg,ac,bc,rfl,p1,q1,p2,q2,q3,g⟩
     refine JF fun R hR=>?_
     have Rd:∀r o st',SS st st'→jM (Le O key) T r.toList→R (.done (some r,o)) st':=fun r o st' a1 a2=>by rw[hR];exact⟨a1,.inl ⟨r,o,rfl,a2⟩⟩
     have Rn:∀na nb out mg ac bc st',SS st st'→na≤a.size→1≤na→nb≤b.size→2≤nb→na+nb+(x+1) < a.size+b.size→H (Le O key) T (a.toList.take na) (b.toList.take nb) out.toList.reverse→R (.done (none,na,nb,out,mg,ac,bc)) st':=
      fun na nb out mg ac bc st' a1 a2 a3 a4 a5 a6 a7=>by rw[hR];exact⟨a1,.inr ⟨_,_,_,_,_,_,rfl,a2,a3,a4,a5,a6,a7⟩⟩
     have Ry:∀na nb out mg ac bc st',SS st st'→na≤a.size→1≤na→nb≤b.size→2≤nb→na+nb+(x+1) < a.size+b.size→H (Le O key) T (a.toList.take na) (b.toList.take nb) out.toList.reverse→R (.yield (none,na,nb,out,mg,ac,bc)) st':=
      fun na nb out mg ac bc st' a1 a2 a3 a4 a5 a6 a7=>by rw[hR];exact⟨a1,_,_,_,_,_,_,rfl,a2,a3,a4,a5,a6,a7⟩
     clear hR
     obtain⟨nb,rfl⟩:∃n,nb=n+1:=⟨nb - 1,by lia⟩
     have p2':nb < b.size:=by assumption
     have q2':1≤nb:=by exact Nat.le_of_lt_succ ‹_›
     extract_lets
     rename Unit→Nat→_=>jp
     refine Lp (jp ()) fun mg'=>?_
     refine wpS_bind (vN hs fun st4 h4=>?_)
     refine wpS_bind (jf p2' ?_)
     refine wpS_bind (j7 C (k:=at' b nb) (base:=0) (n:=na) (hint:=na - 1) (h4.kind.trans hk) (by exact Nat.sub_lt ‹_› Nat.one_pos) (by lia) (dB _ p2') dA ?m1 fun k hk1 hk2 hk3=>?_)
     case m1=>
      intro i j hij hj e
      simp only[jD,BO,gv]at e ⊢
      exact(um pa (by exact mY ‹_›) (by exact nZ ‹_› ‹_›):Le O key (at' a i) (at' a j)).trans e
     simp only[jD,BO,Bool.not_eq_false',gv]at hk2 hk3
     dsimp -zeta only
     extract_lets
     rename Unit→Nat→Array Keyed→_=>jp1
     have J1:∀(na:Nat) (out:Array Keyed),na≤a.size→1≤na→na+(nb+1)+(x+1) < a.size+b.size→H (Le O key) T (a.toList.take na) (b.toList.take (nb+1)) out.toList.reverse→(∀y∈a.toList.take na,Le O key y (at' b nb))→wpS (model prog w) A E s (jp1 () na out) R st4:=by
      intro na out p1 q1 q3 g hl
      obtain⟨na,rfl⟩:∃n,na=n+1:=⟨na - 1,by exact(Nat.sub_add_cancel ‹_›).symm⟩
      have p1':na < a.size:=by assumption
      refine wpS_bind (jf p2' ?_)
      have g':=g.pushB p2' hl
      by_cases z:(nb == 1)=true
      ·exact bv z (wpS_pure (Rd _ _ _ h4 (g'.firstB (by simpa using z) h1)))
      refine bn z ?_
      have z':2≤nb:=by simp at z;lia
      refine wpS_bind (jf p1' ?_)
      refine wpS_bind (j7 C (k:=at' a na) (base:=0) (n:=nb) (hint:=nb - 1) (h4.kind.trans hk) (by exact Nat.sub_lt ‹_› Nat.one_pos) (by lia) (dA _ p1') dB ?m2 fun k' hk1' hk2' hk3'=>?_)
      case m2=>
       intro i j hij hj e
       simp only[jD,gv]at e ⊢
       exact KeyOrd.klt_of_kle_of_klt (O:=O) (um pb (by exact mY ‹_›) (by lia):Le O key (at' b i) (at' b j)) e
      simp only[jD,gv]at hk2' hk3'
      dsimp -zeta only
      extract_lets
      rename Unit→Nat→Array Keyed→_=>jp2
      have J2:∀(nb':Nat) (out:Array Keyed),nb'≤b.size→2≤nb'→na+1+nb'+(x+1) < a.size+b.size→H (Le O key) T (a.toList.take (na+1)) (b.toList.take nb') out.toList.reverse→(∀y∈b.toList.take nb',Le O key y (at' a na))→wpS (model prog w) A E s (jp2 () nb' out) R st4:=by
       intro nb' out r1 r2 r3 g hl
       refine wpS_bind (jf p1' ?_)
       have g':=g.pushA p1' hl
       by_cases z:(na == 0)=true
       ·exact bv z (wpS_pure (Rd _ _ _ h4 (g'.doneA (by simpa using z))))
       refine bn z ?_
       have z':1≤na:=by simp at z;exact Nat.pos_of_ne_zero ‹_›
       refine jN (fun _=>?_) (fun _=>?_)
       ·exact wpS_pure (Rn _ _ _ _ _ _ _ h4 (by exact mY ‹_›) z' r1 r2 (by lia) g')
       ·exact wpS_pure (Ry _ _ _ _ _ _ _ h4 (by exact mY ‹_›) z' r1 r2 (by lia) g')
      clear_value jp2
      have tl:∀y∈b.toList.take k',Le O key y (at' a na):=fun y hy=>by
       obtain⟨j,r1,r2,rfl⟩:=vO hy
       exact Le.of (hk2' j r1)
      by_cases z2:nb - k' > 0
      ·refine bv z2 ?_
       have g2:=g'.blkB hk1' fun j j1 j2 j3 y hy=>(Bd pa p1' hy).trans (hk3' j j1 j2)
       by_cases z3:(k' == 1)=true
       ·exact bv z3 (wpS_pure (Rd _ _ _ h4 (g2.firstB (by simpa using z3) h1)))
       refine bn z3 ?_
       by_cases z4:(k' == 0)=true
       ·exact bv z4 (wpS_pure (Rd _ _ _ h4 (g2.doneB (by simpa using z4))))
       ·exact bn z4 (J2 k' _ (by lia) (by simp at z3 z4;lia) (by lia) g2 tl)
      ·have k0:k'=nb:=by exact Nat.le_antisymm ‹_› (Nat.sub_eq_zero_iff_le.mp (Nat.eq_zero_of_not_pos ‹_›))
       subst k0
       exact bn z2 (J2 k' _ (by exact mY ‹_›) z' (by lia) g' tl)
     clear_value jp1
     have tl:∀y∈a.toList.take k,Le O key y (at' b nb):=fun y hy=>by
      obtain⟨j,r1,r2,rfl⟩:=vO hy
      exact hk2 j r1
     by_cases z2:na - k > 0
     ·refine bv z2 ?_
      have g2:=g.blkA hk1 fun j j1 j2 j3 y hy=>(Bd pb p2' hy).trans (Le.of (hk3 j j1 j2))
      by_cases z3:(k == 0)=true
      ·exact bv z3 (wpS_pure (Rd _ _ _ h4 (g2.doneA (by simpa using z3))))
      ·exact bn z3 (J1 k _ (by exact jS ‹_› ‹_›) (by simp at z3;exact Nat.pos_of_ne_zero ‹_›) (by lia) g2 tl)
     ·have k0:k=na:=by exact Nat.le_antisymm ‹_› (Nat.sub_eq_zero_iff_le.mp (Nat.eq_zero_of_not_pos ‹_›))
      subst k0
      exact bn z2 (J1 k _ p1 q1 q3 g tl)
end
end NhLS
namespace NhLS
set_option autoImplicit false
open PySem PyProof.Rows
def So(O:KeyOrd)(key:Keyed→O.α)(a:Array Keyed)(lo hi:Nat):Prop:=∀i j,lo≤i→i < j→j < hi→Le O key (at' a i) (at' a j)
section
variable {O:KeyOrd} {key:Keyed→O.α} {a b:Array Keyed} {i j lo hi p:Nat} {x y z:Keyed}
theorem So.le(h:So O key a lo hi)(h1:lo≤i)(h2:i≤j)(h3:j < hi):Le O key (at' a i) (at' a j):=by
 by_cases e:i=j
 ·rw[e];exact Le.refl _
 ·exact h i j h1 (by exact zz9 ‹_› ‹_›) h3
theorem So.ext(h:So O key a lo hi)(q:∀j,lo≤j→j < hi→at' b j=at' a j):So O key b lo hi:=fun i j h1 h2 h3=>by
 rw[q i (by assumption) (by lia),q j (by lia) h3]
 exact h i j h1 h2 h3
theorem xB(h1:i+j < hi)(h2:hi≤a.size):at' (a.extract i hi) j=at' a (i+j):=by
 simp[at',Array.getD,show j < min hi a.size - i by lia,show i+j < a.size by exact nZ ‹_› ‹_›]
theorem Ig(h1:lo≤hi)(h2:hi≤a.size):(a.extract lo hi).size=hi - lo:=by
 rw[Array.size_extract]
 lia
theorem Ih(h:So O key a lo hi)(h2:hi≤a.size):(a.extract lo hi).toList.Pairwise (Le O key):=by
 rw[List.pairwise_iff_getElem]
 intro i j hi' hj hij
 rw[Zb,Array.size_extract]at hi' hj
 rw[j8,j8,xB (by lia) h2,xB (by lia) h2]
 exact h _ _ (by exact tv _ _) (by exact zz8 ‹_› _) (by lia)
theorem JG(h:i < a.size)(j:Nat):at' (a.setIfInBounds i x) j=if i=j then x else at' a j:=by
 unfold at'
 rw[Array.getD_eq_getD_getElem?,Array.getD_eq_getD_getElem?,Array.getElem?_setIfInBounds]
 by_cases e:i=j
 ·subst e;simp[h]
 ·simp[e]
def wr(a:Array Keyed)(p:Nat)(M:List (Keyed×Nat)):Array Keyed:=M.foldl (fun a q=>a.setIfInBounds (p+q.2) q.1) a
theorem Bf(p:Nat):∀(M:List (Keyed×Nat)) (a:Array Keyed),(wr a p M).size=a.size
 |[],a=>rfl
 |q::M,a=>(Bf p M _).trans (Array.size_setIfInBounds ..)
theorem EK(p:Nat):∀(M:List Keyed) (n:Nat) (a:Array Keyed),p+n+M.length≤a.size→∀j,at' (wr a p (M.zipIdx n)) j=if p+n≤j∧j < p+n+M.length then M.getD (j - (p+n)) Ha else at' a j
 |[],n,a,h,j=>by
  rw[if_neg (by simp)]
  rfl
 |x::M,n,a,h,j=>by
  rw[List.length_cons]at h
  show at' (wr (a.setIfInBounds (p+n) x) p (M.zipIdx (n+1))) j=_
  rw[EK p M (n+1) _ (by rw[Array.size_setIfInBounds];lia),JG (by lia),List.length_cons]
  by_cases e:p+n=j
  ·subst e
   rw[if_neg (by lia),if_pos rfl,if_pos (by lia),Nat.sub_self]
   rfl
  ·by_cases q:p+(n+1)≤j∧j < p+(n+1)+M.length
   ·rw[if_pos q,if_pos (by lia),show j - (p+n)=(j - (p+(n+1)))+1 by lia]
    rfl
   ·rw[if_neg q,if_neg e,if_neg (by lia)]
theorem Hb(M:List Keyed)(a:Array Keyed)(h:p+M.length≤a.size):(wr a p M.zipIdx).toList=a.toList.take p++M++a.toList.drop (p+M.length):=by
 have hs:=Bf p M.zipIdx a
 refine List.ext_getElem (by simp[hs];lia) fun i h1 h2=>?_
 rw[j8,show M.zipIdx=M.zipIdx 0 from rfl,EK p M 0 a (by assumption)]
 have h1':i < a.size:=by simpa[hs]using h1
 by_cases c1:i < p
 ·rw[if_neg (by lia),List.getElem_append_left (by simp;lia),List.getElem_append_left (by simp;lia),List.getElem_take,j8]
 ·by_cases c2:i < p+M.length
  ·rw[if_pos (by lia),List.getElem_append_left (by simp;lia),List.getElem_append_right (by simp;lia)]
   have e:i - (a.toList.take p).length=i - (p+0):=by simp;lia
   simp only[e]
   simp[show i - p < M.length by lia]
  ·rw[if_neg (by exact fun h=>‹¬_› h.2),List.getElem_append_right (by simp;lia),List.getElem_drop,j8]
   congr 1
   simp
   lia
end
section
variable {prog:Program} {w:World} {A:Around} {E:Value→Shared→Prop} {s:Shared} {κ:SortKind} {O:KeyOrd} {key:Keyed→O.α} {dom:Keyed→Prop}
theorem Hc{st st':SortSt}{Q:PUnit→SortSt→Prop}(h:Q ⟨⟩ st'):wpS (model prog w) A E s (set st':StateT SortSt Sem PUnit) Q st:=by
 unfold wpS;rw[StateT.run_set];exact zz1 ⟨rfl,h⟩
theorem CI(C:Cmp prog w A s κ O key dom){a:Array Keyed}{pd:Array (Nat×Nat×Nat)}{g i sa na pw nb pw':Nat}{Q:Bool→SortSt→Prop}(da:∀i,i < a.size→dom (at' a i))(hp1:pd[i]? =some (sa,na,pw))(hp2:pd[i+1]? =some (sa+na,nb,pw'))
  (h1:1≤na) (h2:1≤nb) (hz:sa+na+nb≤a.size) (s1:So O key a sa (sa+na)) (s2:So O key a (sa+na) (sa+na+nb))
  (h:∀b g',b.toList.Perm a.toList→(∀j,j < sa∨sa+na+nb≤j→at' b j=at' a j)→So O key b sa (sa+na+nb)→Q true (SortSt.mk' κ b ((pd.setIfInBounds i (sa,na+nb,pw)).eraseIdxIfInBounds (i+1)) g' none)):
  wpS (model prog w) A E s (mergeAt' i) Q (SortSt.mk' κ a pd g none):=by
 refine wpS_bind (wpS_get ?_)
 simp only[hp1,hp2]
 refine wpS_bind (Hc ?_)
 have b1:sa+na < a.size:=by lia
 refine wpS_bind (jf b1 ?_)
 refine wpS_bind (j7 C (k:=at' a (sa+na)) (arr:=a) (base:=sa) (n:=na) (hint:=0) rfl (by assumption) (by exact mY ‹_›) (da _ b1) da ?m1 fun k hk1 hk2 hk3=>?_)
 case m1=>
  intro i j hij hj e
  simp only[jD,BO,gv]at e ⊢
  exact(s1.le (by exact tv _ _) (by lia) (by exact zz8 ‹_› _):Le O key (at' a (sa+i)) (at' a (sa+j))).trans e
 simp only[jD,BO,Bool.not_eq_false',gv]at hk2 hk3
 have lo:∀i,sa≤i→i < sa+k→∀j,sa+na≤j→j < sa+na+nb→Le O key (at' a i) (at' a j):=fun i r1 r2 j r3 r4=>by
  have:=hk2 (i - sa) (by exact Nat.sub_lt_left_of_lt_add ‹_› ‹_›)
  rw[show sa+(i - sa)=i by exact zzD ‹_›]at this
  exact Le.trans this (s2.le (by(solve_by_elim (maxDepth:=3) only[*,jS,nZ,yX,mY,zzC,zz8,tv,Nat.lt_of_succ_lt])) r3 r4)
 by_cases z:(na - k == 0)=true
 ·refine bv z (wpS_pure (h a g (List.Perm.refl _) (fun _ _=>rfl) fun i j r1 r2 r3=>?_))
  have z':k=na:=by simp at z;lia
  by_cases c:j < sa+na
  ·exact s1 i j r1 r2 c
  ·by_cases c':i < sa+na
   ·exact lo i r1 (by lia) j (by exact Nat.le_of_not_lt ‹_›) r3
   ·exact s2 i j (by exact Nat.le_of_not_lt ‹_›) r2 r3
 refine bn z ?_
 have z':k < na:=by simp at z;lia
 have b2:sa+na - 1 < a.size:=by exact yX (Nat.sub_le _ _) ‹_›
 rw[show sa+k+(na - k) - 1=sa+na - 1 by lia]
 refine wpS_bind (jf b2 ?_)
 refine wpS_bind (j7 C (k:=at' a (sa+na - 1)) (arr:=a) (base:=sa+na) (n:=nb) (hint:=nb - 1) rfl (by exact Nat.sub_lt ‹_› Nat.one_pos) (by assumption) (da _ b2) da ?m2 fun m hm1 hm2 hm3=>?_)
 case m2=>
  intro i j hij hj e
  simp only[jD,if_true]at e ⊢
  exact KeyOrd.klt_of_kle_of_klt (O:=O) (s2.le (by exact tv _ _) (by lia) (by exact zz8 ‹_› _):Le O key (at' a (sa+na+i)) (at' a (sa+na+j))) e
 simp only[jD,if_true]at hm2 hm3
 have up:∀j,sa+na+m≤j→j < sa+na+nb→∀i,sa≤i→i < sa+na→Le O key (at' a i) (at' a j):=fun j r3 r4 i r1 r2=>by
  have:=hm3 (j - (sa+na)) (by exact Nat.le_sub_of_add_le' ‹_›) (by lia)
  rw[show sa+na+(j - (sa+na))=j by exact zzD (jS (tv _ _) ‹_›)]at this
  exact(s1.le r1 (by lia) (by lia):Le O key (at' a i) (at' a (sa+na - 1))).trans this
 by_cases y:(m == 0)=true
 ·refine bv y (wpS_pure (h a g (List.Perm.refl _) (fun _ _=>rfl) fun i j r1 r2 r3=>?_))
  have y':m=0:=by simpa using y
  by_cases c:j < sa+na
  ·exact s1 i j r1 r2 c
  ·by_cases c':i < sa+na
   ·exact up j (by lia) r3 i r1 c'
   ·exact s2 i j (by exact Nat.le_of_not_lt ‹_›) r2 r3
 refine bn y ?_
 have y':0 < m:=by simp at y;exact Nat.pos_of_ne_zero ‹_›
 have zx:(a.extract (sa+k) (sa+na)).size=na - k:=by rw[Ig (by exact zzC ‹_› _) (by exact mY ‹_›)];lia
 have zy:(a.extract (sa+na) (sa+na+m)).size=m:=by rw[Ig (by exact tv _ _) (by lia)];lia
 have mx:∀x∈(a.extract (sa+k) (sa+na)).toList,∃t,sa+k≤t∧t < sa+na∧x=at' a t:=fun x hx=>by
  obtain⟨t,t1,t2,t3,t4⟩:=vQ hx
  exact⟨t,t1,t2,t4⟩
 have my:∀x∈(a.extract (sa+na) (sa+na+m)).toList,∃t,sa+na≤t∧t < sa+na+m∧x=at' a t:=fun x hx=>by
  obtain⟨t,t1,t2,t3,t4⟩:=vQ hx
  exact⟨t,t1,t2,t4⟩
 have dx:∀x∈(a.extract (sa+k) (sa+na)).toList,dom x:=fun x hx=>by obtain⟨t,t1,t2,rfl⟩:=mx x hx;exact da _ (by lia)
 have dy:∀x∈(a.extract (sa+na) (sa+na+m)).toList,dom x:=fun x hx=>by obtain⟨t,t1,t2,rfl⟩:=my x hx;exact da _ (by lia)
 have px:=Ih (hi:=sa+na) (lo:=sa+k) (a:=a) (fun i j r1 r2 r3=>s1 i j (by exact jS (tv _ _) ‹_›) r2 r3) (by exact mY ‹_›)
 have py:=Ih (hi:=sa+na+m) (lo:=sa+na) (a:=a) (fun i j r1 r2 r3=>s2 i j (by assumption) r2 (by lia)) (by lia)
 have fx:at' (a.extract (sa+k) (sa+na)) 0=at' a (sa+k):=xB (by exact zz8 ‹_› _) (by exact mY ‹_›)
 have lx:at' (a.extract (sa+k) (sa+na)) ((a.extract (sa+k) (sa+na)).size - 1)=at' a (sa+na - 1):=by
  rw[zx,xB (by lia) (by exact mY ‹_›)]
  congr 1
  lia
 have fy:at' (a.extract (sa+na) (sa+na+m)) 0=at' a (sa+na):=xB (by exact zz8 ‹_› _) (by lia)
 have h0:O.blt (key (at' a (sa+na))) (key (at' a (sa+k)))=true:=hk3 k (by exact gR _) z'
 have yl:∀y∈(a.extract (sa+na) (sa+na+m)).toList,Le O key y (at' a (sa+na - 1)):=fun y hy=>by
  obtain⟨t,t1,t2,rfl⟩:=my y hy
  have:=hm2 (t - (sa+na)) (by exact Nat.sub_lt_left_of_lt_add ‹_› ‹_›)
  rw[show sa+na+(t - (sa+na))=t by exact zzD ‹_›]at this
  exact Le.of this
 have xf:∀y∈(a.extract (sa+k) (sa+na)).toList,Le O key (at' a (sa+na)) y:=fun y hy=>by
  obtain⟨t,t1,t2,rfl⟩:=mx y hy
  exact(Le.of h0).trans (s1.le (by exact tv _ _) t1 t2)
 have fin:∀(r:Array Keyed) (g':Nat),jM (Le O key) ((a.extract (sa+k) (sa+na)).toList++(a.extract (sa+na) (sa+na+m)).toList) r.toList→
   Q true (SortSt.mk' κ (wr a (sa+k) r.toList.zipIdx) ((pd.setIfInBounds i (sa,na+nb,pw)).eraseIdxIfInBounds (i+1)) g' none):=by
  intro r g' ⟨gp,gs⟩
  have rl:r.toList.length=na - k+m:=by rw[gp.length_eq,iK,Zb,Zb,zx,zy]
  have at1:=EK (sa+k) r.toList 0 a (by lia)
  have rm:∀x∈r.toList,∃t,sa+k≤t∧t < sa+na+m∧x=at' a t:=fun x hx=>by
   rcases Zai.mp (gp.mem_iff.mp hx)with hx |hx
   ·obtain⟨t,t1,t2,e⟩:=mx x hx
    exact⟨t,t1,by exact Nat.lt_add_right _ ‹_›,e⟩
   ·obtain⟨t,t1,t2,e⟩:=my x hx
    exact⟨t,by lia,t2,e⟩
  have rg:∀n,n < r.toList.length→r.toList.getD n Ha=at' r n:=fun n hn=>by
   have hn':n < r.size:=by simpa using hn
   rw[←j8 hn]
   simp[hn']
  have rt:∀n,n < r.toList.length→∃t,sa+k≤t∧t < sa+na+m∧at' r n=at' a t:=fun n hn=>rm _ (by rw[←j8 hn];exact List.getElem_mem _)
  refine h _ g' ?_ (fun j hj=>?_) fun i j r1 r2 r3=>?_
  ·rw[Hb _ _ (by lia)]
   have ea:a.toList=a.toList.take (sa+k)++((a.extract (sa+k) (sa+na)).toList++(a.extract (sa+na) (sa+na+m)).toList)++a.toList.drop (sa+k+r.toList.length):=by
    rw[←n8,←vP (by exact zzC ‹_› _),←vP (by exact tv _ _),rl,show sa+k+(na - k+m)=sa+na+m by lia,List.take_append_drop]
   refine List.Perm.trans ?_ (List.Perm.of_eq ea.symm)
   exact List.Perm.append_right _ (List.Perm.append_left _ gp)
  ·show at' (wr a (sa+k) (r.toList.zipIdx 0)) j=_
   rw[at1,if_neg (by lia)]
  ·show Le O key (at' (wr a (sa+k) (r.toList.zipIdx 0)) i) (at' (wr a (sa+k) (r.toList.zipIdx 0)) j)
   rw[at1,at1]
   by_cases ci:i < sa+k
   ·rw[if_neg (by lia)]
    by_cases cj:j < sa+na+m
    ·by_cases cj':j < sa+k
     ·rw[if_neg (by lia)]
      exact s1 i j r1 r2 (by lia)
     ·rw[if_pos (by lia),rg _ (by lia)]
      obtain⟨t,t1,t2,e⟩:=rt (j - (sa+k+0)) (by lia)
      rw[e]
      by_cases ct:t < sa+na
      ·exact s1 i t r1 (by exact nZ ‹_› ‹_›) ct
      ·exact lo i r1 ci t (by exact Nat.le_of_not_lt ‹_›) (by lia)
    ·rw[if_neg (by lia)]
     exact lo i r1 ci j (by lia) r3
   ·by_cases ci':i < sa+na+m
    ·rw[if_pos (by lia),rg _ (by lia)]
     by_cases cj:j < sa+na+m
     ·rw[if_pos (by lia),rg _ (by lia)]
      have:=List.pairwise_iff_getElem.mp gs (i - (sa+k+0)) (j - (sa+k+0)) (by lia) (by lia) (by lia)
      rw[j8,j8]at this
      exact this
     ·rw[if_neg (by lia)]
      obtain⟨t,t1,t2,e⟩:=rt (i - (sa+k+0)) (by lia)
      rw[e]
      by_cases ct:t < sa+na
      ·exact up j (by exact Nat.le_of_not_lt ‹_›) r3 t (by exact jS (tv _ _) ‹_›) ct
      ·exact s2 t j (by exact Nat.le_of_not_lt ‹_›) (by lia) r3
    ·rw[if_neg (by lia),if_neg (by lia)]
     exact s2 i j (by lia) r2 r3
 refine jN (fun _=>?_) (fun _=>?_)
 ·refine wpS_bind (CF C rfl dx dy (by lia) (by lia) px py (by rw[fx,fy];exact h0) (by rw[lx];exact yl) fun r st' hs hg=>?_)
  obtain⟨g',rfl⟩:=hs
  exact wpS_bind (wpS_modify (wpS_bind (wpS_get (wpS_pure (fin r g' hg)))))
 ·refine wpS_bind (CG C rfl dx dy (by lia) (by lia) px py (by rw[lx];exact yl) (by rw[fy];exact xf) fun r st' hs hg=>?_)
  obtain⟨g',rfl⟩:=hs
  exact wpS_bind (wpS_modify (wpS_bind (wpS_get (wpS_pure (fin r g' hg)))))
end
end NhLS
namespace NhLS
set_option autoImplicit false
open PySem PyProof.Rows
structure Sx (a b:Array Keyed) (lo hi:Nat):Prop where
 perm:b.toList.Perm a.toList
 out:∀j,j < lo∨hi≤j→at' b j=at' a j
def Dn(O:KeyOrd)(key:Keyed→O.α)(a:Array Keyed)(lo hi:Nat):Prop:=∀i j,lo≤i→i < j→j < hi→Le O key (at' a j) (at' a i)
def Eqs(O:KeyOrd)(key:Keyed→O.α)(a:Array Keyed)(e q:Nat):Prop:=∀i,e - (q+1)≤i→i < e→Le O key (at' a i) (at' a (e - 1))∧Le O key (at' a (e - 1)) (at' a i)
section
variable {O:KeyOrd} {key:Keyed→O.α} {a b c:Array Keyed} {i j k lo hi n q:Nat}
theorem Sx.refl:Sx a a lo hi:=⟨List.Perm.refl _,fun _ _=>rfl⟩
theorem Sx.trans(h1:Sx a b lo hi)(h2:Sx b c lo hi):Sx a c lo hi:=⟨h2.perm.trans h1.perm,fun j hj=>(h2.out j hj).trans (h1.out j hj)⟩
theorem Sx.size(h:Sx a b lo hi):b.size=a.size:=by have:=h.perm.length_eq;simpa using this
theorem Sx.dom{dom:Keyed→Prop}(h:Sx a b lo hi)(da:∀x∈a.toList,dom x):∀x∈b.toList,dom x:=fun x hx=>da x (h.perm.mem_iff.mp hx)
theorem Hd(a:Array Keyed)(i:Nat):at' a i=(a[i]?).getD Ha:=Array.getD_eq_getD_getElem? ..
theorem ku(hj:j≤a.size)(k:Nat):at' (mirror a i j ((j - i) / 2)) k=if i≤k∧k < j then at' a (i+j - 1 - k)else at' a k:=by
 rw[Hd,getElem?_mirror_all hj]
 split <;> rw[Hd]
theorem zW(hk:k < a.size)(hd:n≤k)(i:Nat):at' (bubble a k n) i=if i=k - n then at' a k else if k - n < i∧i≤k then at' a (i - 1)else at' a i:=by
 rw[Hd,getElem?_bubble hk n hd]
 repeat' split
 all_goals rw[Hd]
theorem Sx.rev(h1:lo≤i)(h2:j≤hi)(h3:j≤a.size):Sx a (mirror a i j ((j - i) / 2)) lo hi:=
 ⟨Array.perm_iff_toList_perm.mp (mirror_perm _ _ _ _),fun k hk=>by rw[ku h3,if_neg (by lia)]⟩
theorem Sx.bub(h1:k < a.size)(h0:n≤k)(h2:lo≤k - n)(h3:k < hi):Sx a (bubble a k n) lo hi:=
 ⟨Array.perm_iff_toList_perm.mp (bubble_perm _ _ _),fun j hj=>by rw[zW h1 h0,if_neg (by lia),if_neg (by lia)]⟩
theorem So.step(h:So O key a lo hi)(hl:lo < hi)(e:Le O key (at' a (hi - 1)) (at' a hi)):So O key a lo (hi+1):=fun i j h1 h2 h3=>by
 by_cases c:j < hi
 ·exact h i j h1 h2 c
 ·rw[show j=hi by lia]
  exact(h.le h1 (by lia) (by lia):Le O key (at' a i) (at' a (hi - 1))).trans e
theorem Dn.le(h:Dn O key a lo hi)(h1:lo≤i)(h2:i≤j)(h3:j < hi):Le O key (at' a j) (at' a i):=by
 by_cases e:i=j
 ·rw[e];exact Le.refl _
 ·exact h i j h1 (by exact zz9 ‹_› ‹_›) h3
theorem Dn.step(h:Dn O key a lo hi)(hl:lo < hi)(e:Le O key (at' a hi) (at' a (hi - 1))):Dn O key a lo (hi+1):=fun i j h1 h2 h3=>by
 by_cases c:j < hi
 ·exact h i j h1 h2 c
 ·rw[show j=hi by lia]
  exact Le.trans e (h.le h1 (by lia) (by lia))
theorem Dn.rev(h:Dn O key a lo hi)(e:Eqs O key a hi q)(hz:hi≤a.size)(hq:lo+(q+1)≤hi):Dn O key (mirror a (hi - (q+1)) hi ((hi - (hi - (q+1))) / 2)) lo hi:=fun i j h1 h2 h3=>by
 rw[ku hz,ku hz]
 by_cases c:hi - (q+1)≤i
 ·rw[if_pos (by lia),if_pos (by lia)]
  exact(e _ (by lia) (by lia)).1.trans (e _ (by lia) (by lia)).2
 ·rw[if_neg (show ¬(hi - (q+1)≤i∧i < hi) by exact fun h=>‹¬_› h.1)]
  by_cases c':hi - (q+1)≤j
  ·rw[if_pos (by exact⟨‹_›,‹_›⟩)]
   exact h _ _ h1 (by lia) (by lia)
  ·rw[if_neg (by exact fun h=>‹¬_› h.1)]
   exact h _ _ h1 h2 h3
theorem Dn.flip(h:Dn O key a lo hi)(hz:hi≤a.size):So O key (mirror a lo hi ((hi - lo) / 2)) lo hi:=fun i j h1 h2 h3=>by
 rw[ku hz,ku hz,if_pos (by lia),if_pos (by lia)]
 exact h _ _ (by lia) (by lia) (by lia)
theorem Eqs.one:Eqs O key a (hi+1) 0:=fun i h1 h2=>by
 rw[show i=hi by lia]
 exact⟨Le.refl _,Le.refl _⟩
end
section
variable {prog:Program} {w:World} {A:Around} {E:Value→Shared→Prop} {s:Shared} {κ:SortKind} {O:KeyOrd} {key:Keyed→O.α} {dom:Keyed→Prop} {a:Array Keyed} {pd:Array (Nat×Nat×Nat)} {g:Nat}
theorem pe(C:Cmp prog w A s κ O key dom){i:Nat}{Q:Option Bool→SortSt→Prop}(da:∀x∈a.toList,dom x)(hi:i < a.size)(hj:j < a.size)(h:Q (some (O.blt (key (at' a i)) (key (at' a j)))) (SortSt.mk' κ a pd g none)):wpS (model prog w) A E s (ltAt' i j) Q (SortSt.mk' κ a pd g none):=
 wpS_bind (wpS_get (wpS_bind (jf hi (wpS_bind (jf hj (EI C rfl (da _ (ni hi)) (da _ (ni hj)) h))))))
theorem Bg{i:Nat}{Q:Unit→SortSt→Prop}(h:Q () (SortSt.mk' κ (mirror a i j ((j - i) / 2)) pd g none)):wpS (model prog w) A E s (reverseSlice' i j) Q (SortSt.mk' κ a pd g none):=wpS_modify h
theorem JH{l:Nat}{Q:Unit→SortSt→Prop}(h:Q () (SortSt.mk' κ (bubble a k (k - l)) pd g none)):wpS (model prog w) A E s (moveDown' k l) Q (SortSt.mk' κ a pd g none):=wpS_modify h
theorem Ii{lo n0 nrem:Nat}{body:Nat→Option β×Nat→StateT SortSt Sem (ForInStep (Option β×Nat))}{Q:Option β×Nat→SortSt→Prop}(h1:1≤n0)(h2:n0≤nrem)(hs:So O key a lo (lo+n0))
  (hb:∀x n (R:ForInStep (Option β×Nat)→SortSt→Prop),1≤n→n < nrem→R (if O.blt (key (at' a (lo+n))) (key (at' a (lo+n - 1)))=true then .done (none,n)else .yield (none,n+1)) (SortSt.mk' κ a pd g none)→wpS (model prog w) A E s (body x (none,n)) R (SortSt.mk' κ a pd g none))
  (h:∀n,n0≤n→n≤nrem→So O key a lo (lo+n)→(n < nrem→O.blt (key (at' a (lo+n))) (key (at' a (lo+n - 1)))=true)→Q (none,n) (SortSt.mk' κ a pd g none)):
  wpS (model prog w) A E s (forIn [n0:nrem] (none,n0) body) Q (SortSt.mk' κ a pd g none):=by
 refine wpS_forRange (I:=fun x c st'=>st'=SortSt.mk' κ a pd g none∧c=(none,x)∧n0≤x∧So O key a lo (lo+x)) ?_ ?_ ⟨rfl,rfl,gR _,hs⟩
 ·rintro x c st' q1 q2 ⟨rfl,rfl,q3,q4⟩
  refine hb x x _ (by exact nZ ‹_› ‹_›) q2 ?_
  cases e:O.blt (key (at' a (lo+x))) (key (at' a (lo+x - 1)))with
  |true=>exact h x q3 (by exact mY ‹_›) q4 fun _=>e
  |false=>exact⟨rfl,rfl,by(solve_by_elim (maxDepth:=3) only[*,jS,nZ,yX,mY]),q4.step (by lia) e⟩
 ·rintro c st' ⟨rfl,rfl,q3,q4⟩
  rw[show max n0 nrem=nrem by exact Nat.max_eq_right ‹_›]at q4 ⊢
  exact h nrem h2 (gR _) q4 fun z=>absurd z (Nat.lt_irrefl _)
theorem vR(C:Cmp prog w A s κ O key dom){lo n ok:Nat}{Q:Bool→SortSt→Prop}(da:∀x∈a.toList,dom x)(h1:1≤ok)(h2:ok≤n)(hz:lo+n≤a.size)(hs:So O key a lo (lo+ok))
  (h:∀b,Sx a b lo (lo+n)→So O key b lo (lo+n)→Q true (SortSt.mk' κ b pd g none)):wpS (model prog w) A E s (binarySort' lo n ok) Q (SortSt.mk' κ a pd g none):=by
 refine wpS_bind (wpS_mono (wpS_forRange (I:=fun k c st'=>c=(none,())∧∃b,st'=SortSt.mk' κ b pd g none∧Sx a b lo (lo+n)∧So O key b lo (lo+k)) (Q:=fun c st'=>c=(none,())∧∃b,st'=SortSt.mk' κ b pd g none∧Sx a b lo (lo+n)∧So O key b lo (lo+n)) ?s1 ?s2 ⟨rfl,a,rfl,.refl,by rw[show max ok 1=ok by exact Nat.max_eq_left ‹_›];exact hs⟩) ?s3)
 case s3=>
  rintro c st' ⟨rfl,b,rfl,sb,ss⟩
  exact wpS_pure (h b sb ss)
 case s2=>
  rintro c st' ⟨rfl,b,rfl,sb,ss⟩
  rw[show max (max ok 1) n=n by lia]at ss
  exact⟨rfl,b,rfl,sb,ss⟩
 case s1=>
  rintro k c st' k1 k2 ⟨rfl,b,rfl,sb,ss⟩
  have bz:=sb.size
  have ik:lo+k < b.size:=by lia
  refine wpS_bind (wpS_mono (wpS_forRange (I:=fun x c st'=>st'=SortSt.mk' κ b pd g none∧∃l r,c=(none,l,r)∧l≤r∧r≤k∧r+x≤k+l∧(∀i,i < l→Le O key (at' b (lo+i)) (at' b (lo+k)))∧(∀i,r≤i→i < k→Le O key (at' b (lo+k)) (at' b (lo+i))))
   (Q:=fun c st'=>st'=SortSt.mk' κ b pd g none∧∃l,c=(none,l,l)∧l≤k∧(∀i,i < l→Le O key (at' b (lo+i)) (at' b (lo+k)))∧(∀i,l≤i→i < k→Le O key (at' b (lo+k)) (at' b (lo+i)))) ?t1 ?t2 ⟨rfl,0,k,rfl,by exact pT _,by exact gR _,by(solve_by_elim (maxDepth:=3) only[*,jS,nZ,yX,mY,zzC,zz8,tv,Nat.lt_of_succ_lt]),fun i hi=>by lia,fun i h1 h2=>by lia⟩) ?t3)
  case t2=>
   rintro c st' ⟨rfl,l,r,rfl,p1,p2,p3,p4,p5⟩
   have:l=r:=by lia
   subst this
   exact⟨rfl,l,rfl,p2,p4,p5⟩
  case t1=>
   rintro x c st' - x2 ⟨rfl,l,r,rfl,p1,p2,p3,p4,p5⟩
   dsimp only
   refine jN (fun z=>?_) (fun z=>?_)
   ·have:l=r:=by exact Nat.le_antisymm ‹_› ‹_›
    subst this
    exact wpS_pure ⟨rfl,l,rfl,p2,p4,p5⟩
   ·have im:lo+(l+r) / 2 < b.size:=by lia
    refine wpS_bind (pe C (sb.dom da) ik im ?_)
    cases e:O.blt (key (at' b (lo+k))) (key (at' b (lo+(l+r) / 2)))with
    |true=>exact wpS_pure ⟨rfl,l,(l+r) / 2,rfl,by lia,by lia,by lia,p4,fun i r1 r2=>(Le.of e).trans (ss.le (by exact tv _ _) (by exact zzC ‹_› _) (by exact zz8 ‹_› _))⟩
    |false=>exact wpS_pure ⟨rfl,(l+r) / 2+1,r,rfl,by lia,by assumption,by lia,fun i r1=>(ss.le (by exact tv _ _) (by lia) (by lia):Le O key (at' b (lo+i)) (at' b (lo+(l+r) / 2))).trans e,p5⟩
  case t3=>
   rintro c st' ⟨rfl,l,rfl,p2,p4,p5⟩
   refine wpS_bind (JH (wpS_pure ⟨rfl,_,rfl,sb.trans (Sx.bub (k:=lo+k) (n:=lo+k - (lo+l)) ik (by exact Nat.sub_le _ _) (by lia) (by exact zz8 ‹_› _)),fun i j r1 r2 r3=>?_⟩))
   have q4:∀i,lo≤i→i < lo+l→Le O key (at' b i) (at' b (lo+k)):=fun i u1 u2=>by have:=p4 (i - lo) (by exact Nat.sub_lt_left_of_lt_add ‹_› ‹_›);rwa [show lo+(i - lo)=i by exact zzD ‹_›]at this
   have q5:∀i,lo+l≤i→i < lo+k→Le O key (at' b (lo+k)) (at' b i):=fun i u1 u2=>by have:=p5 (i - lo) (by exact Nat.le_sub_of_add_le' ‹_›) (by lia);rwa [show lo+(i - lo)=i by exact zzD (jS (tv _ _) ‹_›)]at this
   show Le O key (at' (bubble b (lo+k) (lo+k - (lo+l))) i) (at' (bubble b (lo+k) (lo+k - (lo+l))) j)
   rw[zW ik (by exact Nat.sub_le _ _),zW ik (by exact Nat.sub_le _ _),show lo+k - (lo+k - (lo+l))=lo+l by lia]
   repeat' split
   all_goals first
    |(exfalso;lia)
    |exact q4 _ (by assumption) (by(first |exact Nat.lt_of_lt_of_eq ‹_› ‹_› |lia))
    |exact q5 _ (by(first |exact zzC ‹_› _ |lia)) (by lia)
    |exact ss _ _ (by(first |assumption |lia)) (by(first |assumption |lia)) (by lia)
theorem zX(C:Cmp prog w A s κ O key dom){lo nrem:Nat}{Q:Option Nat→SortSt→Prop}(da:∀x∈a.toList,dom x)(h1:1≤nrem)(hz:lo+nrem≤a.size)
  (h:∀m b,1≤m→m≤nrem→Sx a b lo (lo+nrem)→So O key b lo (lo+m)→Q (some m) (SortSt.mk' κ b pd g none)):wpS (model prog w) A E s (countRun' lo nrem) Q (SortSt.mk' κ a pd g none):=by
 refine wpS_bind (Ii (O:=O) (key:=key) (a:=a) (lo:=lo) (n0:=1) (nrem:=nrem) (gR _) h1 (fun i j r1 r2 r3=>by lia) (fun x n R n1 n2 hR=>?_) fun n q1 q2 q3 q4=>?_)
 ·refine wpS_bind (pe C da (show lo+n < a.size by lia) (show lo+n - 1 < a.size by lia) ?_)
  cases e:O.blt (key (at' a (lo+n))) (key (at' a (lo+n - 1)))with
  |true=>rw[e]at hR;exact wpS_pure hR
  |false=>rw[e]at hR;exact wpS_pure hR
 dsimp -zeta only
 by_cases z:(n == nrem)=true
 ·exact bv z (wpS_pure (h n a q1 q2 .refl q3))
 refine bn z ?_
 have z':n < nrem:=by simp at z;exact zz9 ‹_› ‹_›
 have sn:=q4 z'
 extract_lets
 rename Unit→_=>jp
 have J:∀b,Sx a b lo (lo+nrem)→Dn O key b lo (lo+n+1)→wpS (model prog w) A E s (jp ()) Q (SortSt.mk' κ b pd g none):=by
  intro b sb db
  refine wpS_bind (wpS_lift (wpAny_rule ⟨rfl,?_⟩))
  refine wpS_bind (wpS_mono (wpS_forRange (I:=fun x c st'=>∃b q,st'=SortSt.mk' κ b pd g none∧Sx a b lo (lo+nrem)∧c=(none,x,q)∧q+1≤x∧n+1≤x∧Dn O key b lo (lo+x)∧Eqs O key b (lo+x) q)
   (Q:=fun c st'=>∃b m q,st'=SortSt.mk' κ b pd g none∧Sx a b lo (lo+nrem)∧c=(none,m,q)∧q+1≤m∧m≤nrem∧Dn O key b lo (lo+m)∧Eqs O key b (lo+m) q) ?s1 ?s2 ⟨b,0,rfl,sb,rfl,by exact yP ‹_›,by exact zzA _,db,Eqs.one⟩) ?s3)
  case s2=>
   rintro c st' ⟨b,q,rfl,sb,rfl,p1,p2,p3,p4⟩
   rw[show max (n+1) nrem=nrem by exact Nat.max_eq_right ‹_›]at *
   exact⟨b,nrem,q,rfl,sb,rfl,p1,gR _,p3,p4⟩
  case s1=>
   rintro x c st' x1 x2 ⟨b,q,rfl,sb,rfl,p1,p2,p3,p4⟩
   have bz:=sb.size
   have i1:lo+x < b.size:=by lia
   have i2:lo+x - 1 < b.size:=by exact yX (Nat.sub_le _ _) ‹_›
   refine wpS_bind (pe C (sb.dom da) i1 i2 ?_)
   cases e:O.blt (key (at' b (lo+x))) (key (at' b (lo+x - 1)))with
   |true=>
    dsimp only
    rw[if_pos rfl]
    refine jN (fun z=>?_) (fun z=>?_)
    ·refine wpS_bind (Bg (wpS_pure ⟨_,0,rfl,sb.trans (Sx.rev (by lia) (by lia) (by exact mY ‹_›)),rfl,by exact Nat.le_add_left _ _,by exact yP ‹_›,?_,Eqs.one⟩))
     refine(p3.rev p4 (by exact mY ‹_›) (by exact zz8 ‹_› _)).step (by lia) ?_
     rw[ku (by exact mY ‹_›),ku (by exact mY ‹_›),if_neg (by lia),if_pos (by lia)]
     exact(Le.of e).trans (p4 _ (by lia) (by lia)).2
    ·exact wpS_pure ⟨b,0,rfl,sb,rfl,by exact Nat.le_add_left _ _,by exact yP ‹_›,p3.step (by lia) (Le.of e),Eqs.one⟩
   |false=>
    dsimp only
    rw[if_neg (by simp)]
    refine wpS_bind (pe C (sb.dom da) i2 i1 ?_)
    cases e':O.blt (key (at' b (lo+x - 1))) (key (at' b (lo+x)))with
    |true=>exact wpS_pure ⟨b,x,q,rfl,sb,rfl,p1,by exact mY ‹_›,p3,p4⟩
    |false=>
     refine wpS_pure ⟨b,q+1,rfl,sb,rfl,by exact Nat.succ_lt_succ ‹_›,by exact yP ‹_›,p3.step (by lia) e',fun i r1 r2=>?_⟩
     show Le O key (at' b i) (at' b (lo+x))∧Le O key (at' b (lo+x)) (at' b i)
     by_cases c:i=lo+x
     ·rw[c];exact⟨Le.refl _,Le.refl _⟩
     ·obtain⟨u1,u2⟩:=p4 i (by lia) (by lia)
      exact⟨u1.trans e,Le.trans e' u2⟩
  case s3=>
   rintro c st' ⟨b,m,q,rfl,sb,rfl,p1,p2,p3,p4⟩
   have bz:=sb.size
   dsimp -zeta only
   extract_lets
   rename Unit→_=>jp2
   have J2:∀b,Sx a b lo (lo+nrem)→Dn O key b lo (lo+m)→wpS (model prog w) A E s (jp2 ()) Q (SortSt.mk' κ b pd g none):=by
    intro b sb db
    have bz:=sb.size
    refine wpS_bind (Bg ?_)
    have sc:=sb.trans (Sx.rev (a:=b) (i:=lo) (j:=lo+m) (gR lo) (show lo+m≤lo+nrem by exact zzC ‹_› _) (by lia))
    have cz:=sc.size
    have ss:=db.flip (by lia)
    revert sc cz ss
    generalize mirror b lo (lo+m) ((lo+m - lo) / 2)=c
    intro sc cz ss
    refine wpS_bind (Ii (O:=O) (key:=key) (a:=c) (lo:=lo) (n0:=m) (nrem:=nrem) (by exact jS (Nat.le_add_left _ _) ‹_›) p2 ss (fun x n R n1 n2 hR=>?_) fun n q1 q2 q3 q4=>?_)
    ·refine wpS_bind (pe C (sc.dom da) (show lo+n < c.size by lia) (show lo+n - 1 < c.size by lia) ?_)
     cases e:O.blt (key (at' c (lo+n))) (key (at' c (lo+n - 1)))with
     |true=>rw[e]at hR;exact wpS_pure hR
     |false=>rw[e]at hR;exact wpS_pure hR
    ·exact wpS_pure (h n c (by lia) q2 sc q3)
   clear_value jp2
   refine jN (fun z=>?_) (fun z=>?_)
   ·exact wpS_bind (Bg (J2 _ (sb.trans (Sx.rev (a:=b) (i:=lo+m - (q+1)) (j:=lo+m) (by lia) (by exact zzC ‹_› _) (by lia))) (Dn.rev (hi:=lo+m) (q:=q) p3 p4 (by lia) (by exact zz8 ‹_› _))))
   ·exact J2 b sb p3
 clear_value jp
 refine jN (fun c=>?_) (fun c=>?_)
 ·refine wpS_bind (pe C da (show lo < a.size by lia) (show lo+n - 1 < a.size by lia) ?_)
  cases e:O.blt (key (at' a lo)) (key (at' a (lo+n - 1)))with
  |true=>exact wpS_pure (h n a q1 q2 .refl q3)
  |false=>
   refine wpS_bind (Bg (J _ (Sx.rev (gR _) (by exact zzC ‹_› _) (by lia)) fun i j r1 r2 r3=>?_))
   have all:∀x y,lo≤x→x < lo+n→lo≤y→y < lo+n→Le O key (at' a x) (at' a y):=fun x y x1 x2 y1 y2=>
    ((q3.le x1 (by lia) (by lia):Le O key (at' a x) (at' a (lo+n - 1))).trans e).trans (q3.le (gR _) y1 y2)
   rw[ku (by lia),ku (by lia),if_pos (show lo≤i∧i < lo+n by lia)]
   by_cases c':j < lo+n
   ·rw[if_pos (by lia)]
    exact all _ _ (by lia) (by lia) (by lia) (by lia)
   ·rw[if_neg (by exact fun h=>‹¬_› h.2),show j=lo+n by lia]
    exact(Le.of sn).trans (all _ _ (by lia) (by lia) (by lia) (by lia))
 ·refine J a .refl fun i j r1 r2 r3=>?_
  rw[show i=lo+n - 1 by lia,show j=lo+n by lia]
  exact Le.of sn
end
end NhLS
namespace NhLS
set_option autoImplicit false
open PySem PyProof.Rows
def Ch(O:KeyOrd)(key:Keyed→O.α)(a:Array Keyed):List (Nat×Nat×Nat)→Nat→Nat→Prop
 |[],p,e=>p=e
 |t::l,p,e=>t.1=p∧1≤t.2.1∧So O key a p (p+t.2.1)∧Ch O key a l (p+t.2.1) e
section
variable {O:KeyOrd} {key:Keyed→O.α} {a b:Array Keyed}
theorem Ch.app:∀{l l':List (Nat×Nat×Nat)} {p e:Nat},Ch O key a (l++l') p e→∃m,Ch O key a l p m∧Ch O key a l' m e
 |[],_,p,e,h=>⟨p,rfl,h⟩
 |t::l,_,p,e,h=>by
  obtain⟨m,h1,h2⟩:=Ch.app h.2.2.2
  exact⟨m,⟨h.1,h.2.1,h.2.2.1,h1⟩,h2⟩
theorem Ch.join:∀{l l':List (Nat×Nat×Nat)} {p m e:Nat},Ch O key a l p m→Ch O key a l' m e→Ch O key a (l++l') p e
 |[],_,p,m,e,h1,h2=>by rw[show p=m from h1];exact h2
 |t::l,_,p,m,e,h1,h2=>⟨h1.1,h1.2.1,h1.2.2.1,Ch.join h1.2.2.2 h2⟩
theorem Ch.le:∀{l:List (Nat×Nat×Nat)} {p e:Nat},Ch O key a l p e→p+l.length≤e
 |[],p,e,h=>by rw[show p=e from h];exact gR _
 |t::l,p,e,h=>by
  have:=Ch.le h.2.2.2
  have:=h.2.1
  rw[List.length_cons]
  lia
theorem Ch.ext:∀{l:List (Nat×Nat×Nat)} {p e:Nat},Ch O key a l p e→(∀j,p≤j→j < e→at' b j=at' a j)→Ch O key b l p e
 |[],p,e,h,_=>h
 |t::l,p,e,h,q=>by
  have:=Ch.le h.2.2.2
  exact⟨h.1,h.2.1,h.2.2.1.ext fun j h1 h2=>q j h1 (by lia),Ch.ext h.2.2.2 fun j h1 h2=>q j (by exact jS (tv _ _) ‹_›) h2⟩
theorem Ch.map:∀{l l':List (Nat×Nat×Nat)} {p e:Nat},Ch O key a l p e→l'.map (fun t=>(t.1,t.2.1))=l.map (fun t=>(t.1,t.2.1))→Ch O key a l' p e
 |[],l',p,e,h,q=>by
  cases l' with
  |nil=>exact h
  |cons _ _=>simp at q
 |t::l,l',p,e,h,q=>by
  cases l' with
  |nil=>simp at q
  |cons t' l'=>
   simp only[eR,List.cons.injEq,Prod.mk.injEq]at q
   refine⟨q.1.1.trans h.1,by rw[q.1.2];exact h.2.1,by rw[q.1.2];exact h.2.2.1,?_⟩
   rw[q.1.2]
   exact Ch.map h.2.2.2 q.2
theorem He(f:Nat×Nat×Nat→Nat×Nat×Nat)(hf:∀t,(f t).1=t.1∧(f t).2.1=t.2.1)(l:List (Nat×Nat×Nat))(k:Nat):(l.modify k f).map (fun t=>(t.1,t.2.1))=l.map (fun t=>(t.1,t.2.1)):=by
 refine List.ext_getElem? fun j=>?_
 rw[List.getElem?_map,List.getElem?_map,List.getElem?_modify]
 cases l[j]? with
 |none=>rfl
 |some t=>
  by_cases e:k=j
  ·simp[e,hf t]
  ·simp[e]
theorem Ch.one{p n w:Nat}(h:So O key a p (p+n))(h1:1≤n):Ch O key a [(p,n,w)] p (p+n):=⟨rfl,h1,h,rfl⟩
end
section
variable {prog:Program} {w:World} {A:Around} {E:Value→Shared→Prop} {s:Shared} {κ:SortKind} {O:KeyOrd} {key:Keyed→O.α} {dom:Keyed→Prop} {a:Array Keyed} {pd:Array (Nat×Nat×Nat)} {g:Nat}
theorem uo(C:Cmp prog w A s κ O key dom){i lo:Nat}{Q:Bool→SortSt→Prop}(da:∀x∈a.toList,dom x)(hi:i+1 < pd.size)(hz:lo≤a.size)(hc:Ch O key a pd.toList 0 lo)
  (h:∀b pd' g',b.toList.Perm a.toList→(∀j,lo≤j→at' b j=at' a j)→Ch O key b pd'.toList 0 lo→pd'.size+1=pd.size→Q true (SortSt.mk' κ b pd' g' none)):wpS (model prog w) A E s (mergeAt' i) Q (SortSt.mk' κ a pd g none):=by
 have el:pd.toList=pd.toList.take i++(pd[i]::pd[i+1]::pd.toList.drop (i+2)):=by
  conv=>lhs;rw[←List.take_append_drop i pd.toList]
  congr 1
  rw[List.drop_eq_getElem_cons (by simp;exact Nat.lt_of_succ_lt ‹_›),List.drop_eq_getElem_cons (by simp;assumption)]
  simp
 have e1:pd[i]? =some pd[i]:=getElem?_pos ..
 have e2:pd[i+1]? =some pd[i+1]:=getElem?_pos ..
 revert el e1 e2
 generalize pd[i]=t1
 generalize pd[i+1]=t2
 intro el e1 e2
 obtain⟨sa,na,w1⟩:=t1
 obtain⟨sb,nb,w2⟩:=t2
 have li:(pd.toList.take i).length=i:=by simp;lia
 revert el li
 generalize pd.toList.take i=pre
 generalize pd.toList.drop (i+2)=post
 intro el li
 rw[el]at hc
 obtain⟨m,c1,c2⟩:=hc.app
 obtain⟨u1,u2,u3,v1,v2,v3,c3⟩:=c2
 simp only at u1 u2 u3 v1 v2 v3 c3
 subst u1
 subst v1
 have le3:=c3.le
 refine CI C (fun i hi=>da _ (ni hi)) e1 e2 u2 v2 (by lia) u3 v3 fun b g' pb ob sb=>h b _ g' pb (fun j hj=>ob j (.inr (by lia))) ?_ ?_
 ·have:((pd.setIfInBounds i (sa,na+nb,w1)).eraseIdxIfInBounds (i+1)).toList=pre++((sa,na+nb,w1)::post):=by
   have hs:i+1 < (pd.setIfInBounds i (sa,na+nb,w1)).size:=by simpa using hi
   rw[Array.eraseIdxIfInBounds,dif_pos hs,Array.toList_eraseIdx,Array.toList_setIfInBounds,el]
   subst li
   simp[List.eraseIdx_append_of_length_le]
  rw[this]
  refine(c1.ext fun j _ hj=>ob j (.inl hj)).join ⟨rfl,by show 1≤na+nb;exact Nat.lt_add_right _ ‹_›,by rw[←Nat.add_assoc];exact sb,?_⟩
  show Ch O key b post (sa+(na+nb)) lo
  rw[←Nat.add_assoc]
  exact c3.ext fun j hj _=>ob j (.inr hj)
 ·have hs:i+1 < (pd.setIfInBounds i (sa,na+nb,w1)).size:=by simpa using hi
  rw[Array.eraseIdxIfInBounds,dif_pos hs,Array.size_eraseIdx]
  simp
  lia
theorem EL{c:Prop}[Decidable c]{x y:Nat}{Q:Bool→SortSt→Prop}{st:SortSt}(h:∀i,i=x∨i=y→wpS (model prog w) A E s (mergeAt' i) Q st):wpS (model prog w) A E s (mergeAt' (if c then x else y)) Q st:=by
 split
 ·exact h _ (.inl rfl)
 ·exact h _ (.inr rfl)
theorem se(C:Cmp prog w A s κ O key dom){Q:Unit→SortSt→Prop}(da:∀x∈a.toList,dom x)(h:∀b pd' g',b.toList.Perm a.toList→So O key b 0 a.size→Q () (SortSt.mk' κ b pd' g' none)):wpS (model prog w) A E s sortRuns' Q (SortSt.mk' κ a #[] g none):=by
 refine wpS_bind (wpS_get ?_)
 refine wpS_bind (wpS_mono (wpS_forRange (I:=fun x c st'=>∃b lo pd g,st'=SortSt.mk' κ b pd g none∧b.toList.Perm a.toList∧c=(none,lo)∧lo≤a.size∧(x≤lo∨lo=a.size)∧Ch O key b pd.toList 0 lo)
  (Q:=fun c st'=>∃b pd g,st'=SortSt.mk' κ b pd g none∧b.toList.Perm a.toList∧c=(none,a.size)∧Ch O key b pd.toList 0 a.size) ?s1 ?s2 ⟨a,0,#[],g,rfl,List.Perm.refl _,rfl,by exact pT _,by(solve_by_elim (maxDepth:=3) only[*,jS,nZ,yX,mY]),rfl⟩) ?s3)
 case s2=>
  rintro c st' ⟨b,lo,pd,g,rfl,p1,rfl,p2,p3,p4⟩
  have:lo=a.size:=by
   rcases p3 with p3 |p3
   ·have p3':max 0 a.size≤lo:=p3
    exact Nat.le_antisymm ‹_› ‹_›
   ·exact p3
  subst this
  exact⟨b,pd,g,rfl,p1,rfl,p4⟩
 case s1=>
  rintro x c st' - x2 ⟨b,lo,pd,g,rfl,p1,rfl,p2,p3,p4⟩
  have bz:b.size=a.size:=by have:=p1.length_eq;simpa using this
  refine JF fun R hR=>?_
  have Rd:∀b pd g,b.toList.Perm a.toList→Ch O key b pd.toList 0 a.size→R (.done (none,a.size)) (SortSt.mk' κ b pd g none):=fun b pd g q1 q2=>by rw[hR];exact⟨b,pd,g,rfl,q1,rfl,q2⟩
  have Ry:∀b lo pd g,b.toList.Perm a.toList→lo≤a.size→(x+1≤lo∨lo=a.size)→Ch O key b pd.toList 0 lo→R (.yield (none,lo)) (SortSt.mk' κ b pd g none):=fun b lo pd g q1 q2 q3 q4=>by rw[hR];exact⟨b,lo,pd,g,rfl,q1,rfl,q2,q3,q4⟩
  clear hR
  dsimp -zeta only
  extract_lets
  refine jN (fun z=>?_) (fun z=>?_)
  ·have:lo=a.size:=by exact Nat.le_antisymm ‹_› ‹_›
   subst this
   exact wpS_pure (Rd b pd g p1 p4)
  have z':lo < a.size:=by exact Nat.lt_of_not_le ‹_›
  refine wpS_bind (zX C (fun x hx=>da x (p1.mem_iff.mp hx)) (lo:=lo) (nrem:=a.size - lo) (by exact Nat.sub_pos_of_lt ‹_›) (by lia) fun n c n1 n2 sc ss=>?_)
  dsimp -zeta only
  extract_lets
  rename Unit→Nat→_=>jp
  have J:∀(n:Nat) (c:Array Keyed),1≤n→n≤a.size - lo→Sx b c lo (lo+(a.size - lo))→So O key c lo (lo+n)→wpS (model prog w) A E s (jp () n) R (SortSt.mk' κ c pd g none):=by
   intro n c n1 n2 sc ss
   have cp:c.toList.Perm a.toList:=sc.perm.trans p1
   have ch:Ch O key c pd.toList 0 lo:=p4.ext fun j _ hj=>sc.out j (.inl hj)
   refine wpS_bind (wpS_get ?_)
   dsimp -zeta only
   extract_lets
   rename Unit→_=>jq
   have K:∀c pd g,c.toList.Perm a.toList→Ch O key c pd.toList 0 lo→So O key c lo (lo+n)→wpS (model prog w) A E s (jq ()) R (SortSt.mk' κ c pd g none):=by
    intro c pd g cp ch ss
    refine wpS_bind (wpS_modify (wpS_pure (Ry c (lo+n) (pd.push (lo,n,0)) g cp (by lia) (by lia) ?_)))
    rw[Array.toList_push]
    exact ch.join (Ch.one ss n1)
   clear_value jq
   cases eb:pd.back? with
   |none=>exact K c pd g cp ch ss
   |some t=>
    dsimp -zeta only
    refine wpS_bind (wpS_mono (wpS_forRange (I:=fun x r st'=>r=(none,())∧∃c pd g,st'=SortSt.mk' κ c pd g none∧c.toList.Perm a.toList∧Ch O key c pd.toList 0 lo∧So O key c lo (lo+n))
     (Q:=fun r st'=>r=(none,())∧∃c pd g,st'=SortSt.mk' κ c pd g none∧c.toList.Perm a.toList∧Ch O key c pd.toList 0 lo∧So O key c lo (lo+n)) ?t1 (fun _ _ q=>q) ⟨rfl,c,pd,g,rfl,cp,ch,ss⟩) ?t3)
    case t3=>
     rintro r st' ⟨rfl,c,pd,g,rfl,cp,ch,ss⟩
     refine wpS_bind (wpS_modify (K c _ g cp (ch.map ?_) ss))
     rw[Array.toList_modify]
     refine He _ ?_ _ _
     exact fun _=>⟨rfl,rfl⟩
    case t1=>
     rintro y r st' - - ⟨rfl,c,pd,g,rfl,cp,ch,ss⟩
     refine wpS_bind (wpS_get ?_)
     dsimp only
     by_cases pz:pd.size > 1
     ·rw[if_pos pz,getElem?_pos pd (pd.size - 2) (by lia)]
      refine jN (fun _=>?_) (fun _=>?_)
      ·exact wpS_pure ⟨rfl,c,pd,g,rfl,cp,ch,ss⟩
      ·have cz:c.size=a.size:=by have:=cp.length_eq;simpa using this
       refine wpS_bind (uo C (fun x hx=>da x (cp.mem_iff.mp hx)) (i:=pd.size - 2) (lo:=lo) (by lia) (by lia) ch fun d pd' g' dp od dc _=>?_)
       exact wpS_pure ⟨rfl,d,pd',g',rfl,dp.trans cp,dc,ss.ext fun j j1 _=>od j j1⟩
     ·rw[if_neg pz]
      exact wpS_pure ⟨rfl,c,pd,g,rfl,cp,ch,ss⟩
  clear_value jp
  refine jN (fun y=>?_) (fun y=>?_)
  ·refine wpS_bind (wpS_lift (wpAny_rule ⟨rfl,?_⟩))
   have cz:=sc.size
   refine wpS_bind (vR C (a:=c) (lo:=lo) (n:=min (a.size - lo) (minRun' a.size a.size 0)) (ok:=n) (fun x hx=>da x (p1.mem_iff.mp (sc.perm.mem_iff.mp hx))) n1 (by have y':n < minRun' a.size a.size 0:=y;lia) (by lia) ss fun d sd ds=>?_)
   refine bn (by simp) ?_
   exact J _ d (by have y':n < minRun' a.size a.size 0:=y;lia) (by lia) (sc.trans ⟨sd.perm,fun j hj=>sd.out j (by lia)⟩) ds
  ·exact J n c n1 n2 sc ss
 case s3=>
  rintro c st' ⟨b,pd,g,rfl,p1,rfl,p2⟩
  refine wpS_bind (wpS_mono (wpS_forRange (I:=fun x r st'=>r=(none,())∧∃c pd g,st'=SortSt.mk' κ c pd g none∧c.toList.Perm a.toList∧Ch O key c pd.toList 0 a.size∧(pd.size+x≤a.size∨pd.size≤1))
   (Q:=fun r st'=>r=(none,())∧∃c pd g,st'=SortSt.mk' κ c pd g none∧c.toList.Perm a.toList∧Ch O key c pd.toList 0 a.size∧pd.size≤1) ?t1 ?t2 ⟨rfl,b,pd,g,rfl,p1,p2,.inl (by have:=p2.le;simp at this;assumption)⟩) ?t3)
  case t2=>
   rintro r st' ⟨rfl,c,pd,g,rfl,cp,ch,hz⟩
   refine⟨rfl,c,pd,g,rfl,cp,ch,?_⟩
   rcases hz with hz |hz
   ·have hz':pd.size+max 0 a.size≤a.size:=hz
    lia
   ·exact hz
  case t1=>
   rintro y r st' - - ⟨rfl,c,pd,g,rfl,cp,ch,hz⟩
   refine wpS_bind (wpS_get ?_)
   refine jN (fun z=>?_) (fun z=>?_)
   ·exact wpS_pure ⟨rfl,c,pd,g,rfl,cp,ch,z⟩
   ·have z':1 < pd.size:=Nat.lt_of_not_le z
    have cz:c.size=a.size:=by have:=cp.length_eq;simpa using this
    extract_lets
    refine wpS_bind (EL fun i hi=>?_)
    refine uo C (fun x hx=>da x (cp.mem_iff.mp hx)) (i:=i) (lo:=a.size) ?_ (by exact Nat.le_of_eq (Eq.symm ‹_›)) ch fun d pd' g' dp od dc dz=>?_
    ·rcases hi with rfl |rfl
     ·show pd.size - 2 - 1+1 < pd.size
      lia
     ·show pd.size - 2+1 < pd.size
      lia
    ·exact wpS_pure ⟨rfl,d,pd',g',rfl,dp.trans cp,dc,by lia⟩
  case t3=>
   rintro r st' ⟨rfl,c,pd,g,rfl,cp,ch,hz⟩
   refine wpS_pure (h c pd g cp ?_)
   obtain⟨l⟩:=pd
   match l,hz,ch with
   |[],_,ch=>
    have:0=a.size:=ch
    rw[←this]
    exact fun i j _ _ q=>by lia
   |[t],_,ch=>
    obtain⟨_,_,s1,e⟩:=ch
    have e':0+t.2.1=a.size:=e
    rw[e']at s1
    exact s1
   |_::_::_,hz,_=>simp at hz
end
end NhLS
namespace NhSG
set_option autoImplicit false
open PySem PyProof PyProof.Rows PySem.W
def Keep(h h':Heap):Prop:=∀b o,h.get? b=some o→h'.get? b=some o
theorem Keep.trans{h1 h2:Heap}(a:Keep h h1)(b:Keep h1 h2):Keep h h2:=fun c o e=>b c o (a c o e)
def IsKy(hp:Heap)(v:Value)(y:Ky):Prop:=∃c o xs k t z u,v=.ref c∧hp.get? c=some o∧o.cls=.type "tuple"∧o.data=.seq xs k∧xs.toList=[.int y.1 t,.str z u]∧y.2=z.cps.toList
theorem IsKy.keep{v:Value}{y:Ky}(a:IsKy h v y)(k:Keep h h'):IsKy h' v y:=by
 obtain⟨c,o,xs,n,t,z,u,e,ho,r⟩:=a
 exact⟨c,o,xs,n,t,z,u,e,k c o ho,r⟩
theorem IsKy.key{v:Value}{y:Ky}(a:IsKy h v y):tF h v=some y:=by
 obtain⟨c,o,xs,n,t,z,u,rfl,ho,hc,hd,hx,e⟩:=a
 rw[G8 ho hd hx,←e]
def KA(hp:Heap):List Value→List Ky→Prop
 |[],[]=>True
 |v::vs,y::ys=>IsKy hp v y∧KA hp vs ys
 |_,_=>False
theorem KA.keep(k:Keep h h'):∀{vs:List Value} {ys:List Ky},KA h vs ys→KA h' vs ys
 |[],[],_=>trivial
 |v::vs,y::ys,a=>⟨a.1.keep k,KA.keep k a.2⟩
 |[],_::_,a=>a.elim
 |_::_,[],a=>a.elim
theorem KA.len:∀{vs:List Value} {ys:List Ky},KA h vs ys→vs.length=ys.length
 |[],[],_=>rfl
 |v::vs,y::ys,a=>by simp[KA.len a.2]
 |[],_::_,a=>a.elim
 |_::_,[],a=>a.elim
theorem KA.snoc{v:Value}{y:Ky}(b:IsKy h v y):∀{vs:List Value} {ys:List Ky},KA h vs ys→KA h (vs++[v]) (ys++[y])
 |[],[],_=>⟨b,trivial⟩
 |_::_,_::_,a=>⟨a.1,KA.snoc b a.2⟩
 |[],_::_,a=>a.elim
 |_::_,[],a=>a.elim
theorem KA.tups:∀{vs:List Value} {ys:List Ky},KA h vs ys→∃fs,KatTups h vs fs∧(∀f∈fs,∃n t,f=.int n t)∧fs.length=vs.length
 |[],[],_=>⟨[],trivial,(fun _ z=>by cases z),rfl⟩
 |v::vs,y::ys,a=>by
  obtain⟨fs,t,hf,hl⟩:=KA.tups a.2
  obtain⟨c,o,xs,n,tk,z,u,rfl,ho,hc,hd,hx,e⟩:=a.1
  refine⟨.int y.1 tk::fs,KatTups.cons ho hc hd ?_ t,fun f hm=>?_,by simp[hl]⟩
  ·rw[←Array.getElem?_toList,hx]
   rfl
  ·rcases Zap.mp hm with rfl |hm
   ·exact⟨_,_,rfl⟩
   ·exact hf f hm
 |[],_::_,a=>a.elim
 |_::_,[],a=>a.elim
def CJ(ys:List Ky)(vs out:List Value):Prop:=∃ps:List (Ky×Value),ps.Perm (ys.zip vs)∧ps.Pairwise (fun p q=>iQ q.1 p.1=false)∧out=ps.map (·.2)
@[reducible] def xC (h:Heap) (p:Keyed):Ky:=(tF h p.1).getD (0,[])
theorem MJ{prog:Program}{w:World}{A:Around}{s:Shared}:NhLS.Cmp prog w A s (tuples' true) (h7 s.heap).toKeyOrd (xC s.heap) (fun p=>∃y,tF s.heap p.1=some y):=
 ⟨fun E x y Q ⟨a,ha⟩ ⟨b,hb⟩ hq=>by
  have hq':Q (iQ (xC s.heap x) (xC s.heap y)) s:=hq
  unfold xC at hq'
  rw[ha,hb]at hq'
  exact G9 E x.1 y.1 a b ha hb hq'⟩
theorem KA.zip:∀{ks:List Value} {ys:List Ky} {vs:List Value},KA h ks ys→(ks.zip vs).map (fun p=>(xC h p,p.2))=ys.zip vs
 |[],[],_,_=>by simp
 |k::ks,y::ys,[],_=>by simp
 |k::ks,y::ys,v::vs,a=>by
  simp only[List.zip_cons_cons,eR]
  rw[KA.zip a.2]
  congr 1
  show((tF h k).getD (0,[]),v)=(y,v)
  rw[a.1.key]
  rfl
 |[],_::_,_,a=>a.elim
 |_::_,[],_,a=>a.elim
theorem KA.dom{vs:List Value}:∀{ks:List Value} {ys:List Ky},KA h ks ys→∀p∈ks.zip vs,∃y,tF h p.1=some y:=fun {ks ys} a p hp=>by
 have hk:p.1∈ks:=(List.of_mem_zip hp).1
 clear hp
 induction ks generalizing ys with
 |nil=>cases hk
 |cons k ks ih=>cases ys with
  |nil=>exact a.elim
  |cons y ys=>
   rcases Zap.mp hk with e |hk
   ·rw[e];exact⟨y,a.1.key⟩
   ·exact ih a.2 hk
theorem JI{ks:List Value}{ys:List Ky}{vs:List Value}{b:Array Keyed}(hK:KA h ks ys)(hp:b.toList.Perm (ks.zip vs))(hs:NhLS.So (h7 h).toKeyOrd (xC h) b 0 b.size):CJ ys vs (b.map (·.2)).toList:=by
 refine⟨b.toList.map (fun p=>(xC h p,p.2)),?_,?_,?_⟩
 ·rw[←hK.zip (vs:=vs)]
  exact hp.map _
 ·rw[List.pairwise_map,List.pairwise_iff_getElem]
  intro i j hi hj hij
  rw[NhLS.j8,NhLS.j8]
  exact hs i j (pT _) hij (by simpa using hj)
 ·rw[Array.toList_map,List.map_map]
  rfl
section
variable {prog:Program} {w:World} {A:Around} {E:Value→Shared→Prop} {s:Shared} {a kS:Addr} {ks vs:List Value} {ys:List Ky} {e e1:Nat} {P:PySem.Fin→Shared→Prop}
theorem Bh{st:SortSt} (hk:s.heap.get? kS=some (seqObj "list" ks.toArray e)) (ha:s.heap.get? a=some (seqObj "list" #[] e1)) (hka:kS≠a) (h64:vs.length < 65536) (hl:ks.length=vs.length) (hn:(arrOf st).size=vs.length) (hfl:failedOf st=none)
  (h:∀h' tk c,h'.get? a=some (seqObj "list" ((arrOf st).map (·.2)) c)→(∀b o,b≠a→b≠kS→s.heap.get? b=some o→h'.get? b=some o)→P (.done (.ret .none)) {s with heap:=h',toks:=tk}):
  wpAny (model prog w) A (ksk_tail a false e1 (.ref kS) st) P E s:=by
 have s1:=Heap.SameBut.update s.heap kS (Obj.mapSeq fun _=>(#[]:Array Value))
 have na1:(s.heap.update kS (Obj.mapSeq fun _=>(#[]:Array Value))).get? a=some (seqObj "list" #[] e1):=(s1.2 a hka.symm).trans ha
 have s2:=Heap.SameBut.update (s.heap.update kS (Obj.mapSeq fun _=>(#[]:Array Value))) a (Obj.mapSeq fun _=>(arrOf st).map (·.2))
 obtain⟨c2,hc2⟩:∃c2,((s.heap.update kS (Obj.mapSeq fun _=>(#[]:Array Value))).update a (Obj.mapSeq fun _=>(arrOf st).map (·.2))).get? a=some (seqObj "list" ((arrOf st).map (·.2)) c2):=⟨_,get?_update_seq na1 fun _=>(arrOf st).map (·.2)⟩
 unfold ksk_tail
 try dsimp only
 refine zz0 (listUpdate_at hk rfl ?_ (by rw[n4,sizeLine_eq];omega) (pT _))
 refine zz0 (wpAny_letGo ?_)
 refine zz0 (seqEpoch_at na1 rfl ?_)
 simp only[gv]
 refine zz0 (listUpdate_at na1 rfl ?_ (pT _) (by rw[Array.size_map,hn,sizeLine_eq];omega))
 rw[hfl]
 simp only[bne_self_eq_false,gv]
 exact zz1 (h _ _ c2 hc2 fun b o h1 h2 q=>(s2.2 b h1).trans ((s1.2 b h2).trans q))
theorem JJ(hK:KA s.heap ks ys) (hk:s.heap.get? kS=some (seqObj "list" ks.toArray e)) (ha:s.heap.get? a=some (seqObj "list" #[] e1)) (hka:kS≠a) (h64:vs.length < 65536) (hl:ks.length=vs.length)
  (h:∀h' tk out c,h'.get? a=some (seqObj "list" out c)→CJ ys vs out.toList→(∀b o,b≠a→b≠kS→s.heap.get? b=some o→h'.get? b=some o)→P (.done (.ret .none)) {s with heap:=h',toks:=tk}):
  wpAny (model prog w) A (ksk_end a false vs.toArray e1 (.ref kS) ks.toArray) P E s:=by
 have hzs:(ks.toArray.zip vs.toArray).size=vs.length:=by rw[Array.size_zip,n4,n4,hl,Nat.min_self]
 unfold ksk_end
 try dsimp only
 simp only[gv]
 by_cases h2:vs.toArray.size < 2
 ·rw[if_pos h2,if_pos h2]
  refine zz0 (zz1 ?_)
  rw[StateT.run_pure]
  refine zz0 (zz1 ?_)
  try dsimp only
  refine Bh (st:=SortSt.mk' general' (ks.toArray.zip vs.toArray) #[] 7 none) hk ha hka h64 hl hzs rfl fun h' tk c h1 h3=>h h' tk _ c h1 ⟨ys.zip vs,List.Perm.refl _,?_,?_⟩ h3
  ·rw[n4]at h2
   rw[List.pairwise_iff_getElem]
   intro i j hi hj hij
   simp at hj
   omega
  ·have e1:(ys.zip vs).map (·.2)=vs:=by rw[List.map_snd_zip];have:=hK.len;omega
   have e2:((arrOf (SortSt.mk' general' (ks.toArray.zip vs.toArray) #[] 7 none)).map (·.2)).toList=(ks.zip vs).map (·.2):=by
    show((ks.toArray.zip vs.toArray).map (·.2)).toList=_
    simp
   rw[e1,e2,List.map_snd_zip]
   omega
 ·rw[if_neg h2,if_neg h2]
  rw[n4]at h2
  obtain⟨fs,tt,hf,lf⟩:=hK.tups
  refine zz0 (kat_kind (T:=.type "int") tt (by omega) (fun v hv=>?_) (by decide) ?_)
  ·obtain⟨n,t,rfl⟩:=hf v hv
   exact .now
  ·have run:=NhLS.se (E:=E) (a:=ks.toArray.zip vs.toArray) (g:=7) (MJ (prog:=prog) (w:=w) (A:=A) (s:=s)) (Q:=fun _ st'=>∃b pd g,st'=SortSt.mk' (tuples' true) b pd g none∧b.toList.Perm (ks.zip vs)∧NhLS.So (h7 s.heap).toKeyOrd (xC s.heap) b 0 b.size)
    (by simpa using hK.dom) fun b pd g hp hs=>⟨b,pd,g,rfl,by simpa using hp,by have:=hp.length_eq;simp only[Zb]at this;rw[this];exact hs⟩
   refine zz0 (zz2 run ?_ fun _ _ e=>e)
   rintro⟨⟨⟩,st'⟩ s' ⟨es,b,pd,g,e,hp,hs⟩
   subst es
   dsimp only at e
   subst e
   try dsimp only
   have hz:b.size=vs.length:=by have:=hp.length_eq;simpa[hl]using this
   exact Bh (st:=SortSt.mk' (tuples' true) b pd g none) hk ha hka h64 hl hz rfl fun h' tk c h1 h3=>h h' tk _ c h1 (JI hK hp hs) h3
def oB(prog:Program)(w:World)(A:Around)(f:Value)(s:Shared)(v:Value)(y:Ky):Prop:=∀(h:Heap) (tk:Nat),Keep s.heap h→
 wpAny (model prog w) A (call f [v]) (fun r s'=>∃h' tk',s'={s with heap:=h',toks:=tk'}∧Keep h h'∧IsKy h' r y) (fun _ _=>False) {s with heap:=h,toks:=tk}
theorem Hf{f:Value} {s0:Shared} (hs0:Keep s0.heap s.heap) (hss:∃tk,s={s0 with heap:=s.heap,toks:=tk}) (h0a:s0.heap.get? a=none) (h0k:s0.heap.get? kS=none) (hk:s.heap.get? kS=some (seqObj "list" #[] 0)) (ha:s.heap.get? a=some (seqObj "list" #[] e1)) (hka:kS≠a) (h64:vs.length < 65536) (hl:ys.length=vs.length)
  (turn:∀(i:Nat) (v:Value) (y:Ky),vs[i]? =some v→ys[i]? =some y→oB prog w A f s0 v y)
  (h:∀h' tk out c,h'.get? a=some (seqObj "list" out c)→CJ ys vs out.toList→Keep s0.heap h'→P (.done (.ret .none)) {s0 with heap:=h',toks:=tk}):
  wpAny (model prog w) A (ksk_rest a f false vs.toArray e1 (.ref kS)) P E s:=by
 unfold ksk_rest
 refine zz0 (wpAny_rule ?_)
 first
  |rw[List.forIn_toArray]
  |(rw[←Array.forIn_toList];simp only[List.toList_toArray])
  |rw[←Array.forIn_toList]
 obtain⟨tk0,es⟩:=hss
 refine zz0 (ksk_fold (fun i s'=>∃h' tk kL e,s'={s0 with heap:=h',toks:=tk}∧Keep s0.heap h'∧h'.get? kS=some (seqObj "list" kL.toArray e)∧h'.get? a=some (seqObj "list" #[] e1)∧KA h' kL (ys.take i)) vs 0 s
  ⟨s.heap,tk0,[],0,es,hs0,hk,ha,by simp[KA]⟩ ?step ?done)
 case step=>
  rintro j x s' hx ⟨h',tk,kL,e,rfl,F',N1,N2,hK⟩
  simp only[Nat.zero_add]at hK ⊢
  have hj:j < vs.length:=(Zbi.mp hx).1
  obtain⟨y,hyj⟩:∃y,ys[j]? =some y:=⟨_,yN (by omega)⟩
  have hz:kL.length≤vs.length:=by
   have h1:=hK.len
   rw[List.length_take]at h1
   omega
  refine zz0 (wpAny_attempt (zz2 (turn j x y hx hyj h' tk F') (fun v s'' he=>?_) fun _ _ hF=>hF.elim))
  obtain⟨g,tk2,rfl,kg,hy⟩:=he
  try dsimp only
  have nk:=kg _ _ N1
  have na:=kg _ _ N2
  have s1:=Heap.SameBut.update g kS (Obj.mapSeq (·.push v))
  obtain⟨c2,hc2⟩:∃c2,(g.update kS (Obj.mapSeq (·.push v))).get? kS=some (seqObj "list" (kL.toArray.push v) c2):=⟨_,get?_update_seq nk (·.push v)⟩
  have ek:ys.take (j+1)=ys.take j++[y]:=by rw[List.take_add_one,hyj];simp
  have ea:kL.toArray.push v=(kL++[v]).toArray:=by simp
  have ng:∀{ks':List Value} {ys':List Ky},KA g ks' ys'→KA (g.update kS (Obj.mapSeq (·.push v))) ks' ys':=fun {ks'} {ys'} q=>by
   induction ks' generalizing ys' with
   |nil=>cases ys' with
    |nil=>trivial
    |cons _ _=>exact q.elim
   |cons k ks' ih=>cases ys' with
    |nil=>exact q.elim
    |cons y' ys'=>
     refine⟨?_,ih q.2⟩
     obtain⟨c,o,xs,n,t,z,u,ec,ho,hcl,r⟩:=q.1
     refine⟨c,o,xs,n,t,z,u,ec,(s1.2 c ?_).trans ho,hcl,r⟩
     intro e3
     subst e3
     rw[nk]at ho
     cases ho
     have e4:Value.type "list"=Value.type "tuple":=hcl
     injection e4 with e5
     exact absurd e5 (by decide)
  refine zz0 (listUpdate_at nk rfl ?_ (by rw[n4,sizeLine_eq];omega) (jS (Nat.le_of_eq (Array.size_push ..)) (by rw[n4,sizeLine_eq];omega)))
  refine zz1 ⟨rfl,_,_,kL++[v],c2,rfl,fun b o q=>?_,by rw[←ea];exact hc2,(s1.2 a hka.symm).trans na,by rw[ek];exact ng (KA.snoc hy (hK.keep kg))⟩
  refine(s1.2 b fun e3=>?_).trans (kg _ _ (F' _ _ q))
  subst e3
  rw[h0k]at q
  cases q
 case done=>
  rintro s' ⟨h',tk,kL,e,rfl,F',N1,N2,hK⟩
  have e3:ys.take (0+vs.length)=ys:=List.take_of_length_le (by omega)
  rw[e3]at hK
  try dsimp only
  refine zz0 (listItems_at N1 rfl ?_)
  refine JJ (s:={s0 with heap:=h',toks:=tk}) hK N1 N2 hka h64 (by rw[hK.len,hl]) fun h3 tk3 out c g1 g2 g3=>h h3 tk3 out c g1 g2 fun b o q=>g3 b o ?_ ?_ (F' b o q)
  ·intro z;subst z;rw[h0a]at q;cases q
  ·intro z;subst z;rw[h0k]at q;cases q
theorem Hg{f:Value} {n:Nat} {s0:Shared} (hs0:Keep s0.heap s.heap) (hss:∃tk,s={s0 with heap:=s.heap,toks:=tk}) (h0a:s0.heap.get? a=none) (hle:s0.heap.objs.size≤s.heap.objs.size) (ho:s.heap.get? a=some (seqObj "list" vs.toArray n)) (h64:vs.length < 65536) (hl:ys.length=vs.length)
  (turn:∀(i:Nat) (v:Value) (y:Ky),vs[i]? =some v→ys[i]? =some y→oB prog w A f s0 v y)
  (h:∀h' tk out c,h'.get? a=some (seqObj "list" out c)→CJ ys vs out.toList→Keep s0.heap h'→P (.done (.ret .none)) {s0 with heap:=h',toks:=tk}):
  wpAny (model prog w) A (ksk_tree a f false) P E s:=by
 have ha:a < s.heap.objs.size:=iC ho
 have s1:=Heap.SameBut.update s.heap a (Obj.mapSeq fun _=>(#[]:Array Value))
 obtain⟨e1,ho1⟩:∃e1,(s.heap.update a (Obj.mapSeq fun _=>(#[]:Array Value))).get? a=some (seqObj "list" #[] e1):=⟨_,get?_update_seq ho fun _=>#[]⟩
 have hkS:((s.heap.update a (Obj.mapSeq fun _=>(#[]:Array Value))).push (seqObj "tuple" vs.toArray 0)).objs.size=s.heap.objs.size+1:=by rw[size_push',Heap.size_update]
 obtain⟨tk0,es⟩:=hss
 unfold ksk_tree
 refine zz0 (listItems_at ho rfl ?_)
 refine zz0 (listUpdate_at ho rfl ?_ (by rw[n4,sizeLine_eq];omega) (pT _))
 refine zz0 (seqEpoch_at ho1 rfl ?_)
 refine zz0 (wpAny_newTuple ?_ (by show vs.length≤_;rw[sizeLine_eq];omega))
 refine zz0 (wpAny_newList ?_ (pT _))
 refine zz7 ?_
 refine Hf (s:={s with heap:=((s.heap.update a (Obj.mapSeq fun _=>(#[]:Array Value))).push (seqObj "tuple" vs.toArray 0)).push (seqObj "list" #[] 0)}) (kS:=((s.heap.update a (Obj.mapSeq fun _=>(#[]:Array Value))).push (seqObj "tuple" vs.toArray 0)).objs.size) (s0:=s0)
  (fun b o q=>?_) ⟨tk0,by rw[es]⟩ h0a (Heap.get?_none_of_le (by rw[hkS];omega)) (nY _ rfl) (iB _ (iB _ ho1)) (by rw[hkS];exact Nat.ne_of_gt (yP ha)) h64 hl turn h
 refine iB _ (iB _ ((s1.2 b fun z=>?_).trans (hs0 b o q)))
 subst z
 rw[h0a]at q
 cases q
end
end NhSG
namespace NhSS
set_option autoImplicit false
open PySem PyProof PyProof.Rows
@[reducible] def tx (p:Keyed):List Nat:=(strOf p.1).cps.toList
def Nt(p:Keyed):Prop:=∃x t,p.1=.str x t
def Told(ss:List Str)(out:Array Value):Prop:=∃zs,StrsAre out.toList zs∧zs.Perm ss∧sortedS zs=true
section
variable {prog:Program} {w:World} {A:Around} {E:Value→Shared→Prop} {s:Shared} {a:Addr} {vs:List Value} {ss:List Str} {n:Nat}
theorem MK:NhLS.Cmp prog w A s oneType' strKind.toKeyOrd tx Nt:=by
 constructor
 rintro E ⟨_,x2⟩ ⟨_,y2⟩ Q ⟨x,t,rfl⟩ ⟨y,u,rfl⟩ hq
 rw[keyLt'_oneType]
 exact strKind_oneLt prog w A E s (.str x t) (.str y u) x.cps.toList y.cps.toList rfl rfl hq
theorem Aw(hS:StrsAre vs ss):∀p∈vs.zip vs,Nt p:=fun p hp=>hS.all _ (List.of_mem_zip hp).1
theorem Hh(hS:StrsAre vs ss){b:Array Keyed}(hp:b.toList.Perm (vs.zip vs))(hs:NhLS.So strKind.toKeyOrd tx b 0 b.size):Told ss (b.map (·.2)):=by
 have at_:∀i,i < b.size→KK strKind b i=tx (NhLS.at' b i):=fun i hi=>by
  obtain⟨x,t,e⟩:=Aw hS b[i] (hp.mem_iff.mp (by simp))
  rw[KK_str hi (x:=x) (t:=t) (q:=b[i].2) (Prod.ext e rfl)]
  simp[tx,NhLS.at',Array.getD,hi,e,strOf]
 refine sorted_out_str hS (Array.perm_iff_toList_perm.mpr (by rw[pairsOf_toList];exact hp)) fun i j hij hj=>?_
 have hz:(pairsOf vs).size=b.size:=by have:=hp.length_eq;rw[pairsOf_size];simp at this;omega
 rw[hz]at hj
 rw[at_ i (by omega),at_ j hj]
 exact hs.le (pT _) hij hj
theorem EM{P:PySem.Fin→Shared→Prop} (ho:s.heap.get? a=some (seqObj "list" vs.toArray n)) (hS:StrsAre vs ss) (hn:vs.length < 65536)
  (h:∀h' out c,h'.get? a=some (seqObj "list" out c)→Told ss out→(∀b o,b≠a→s.heap.get? b=some o→h'.get? b=some o)→P (.done (.ret .none)) {s with heap:=h'}):
  wpAny (model prog w) A (Builtin.«list.sort» ⟨[.ref a],[]⟩) P E s:=by
 have big:∀k,k=vs.length→k≤sizeLine:=fun k e=>by rw[sizeLine_eq];omega
 have k0:=Heap.SameBut.update s.heap a (Obj.mapSeq fun _=>(#[]:Array Value))
 obtain⟨c0,o0⟩:∃c,(s.heap.update a (Obj.mapSeq fun _=>(#[]:Array Value))).get? a=some (seqObj "list" #[] c):=⟨_,get?_update_seq ho fun _=>#[]⟩
 have o2:=iB (seqObj "list" (#[]:Array Value) 0) (iB (seqObj "tuple" vs.toArray 0) o0)
 have back:∀arr:Array Keyed,arr.toList.Perm (vs.zip vs)→NhLS.So strKind.toKeyOrd tx arr 0 arr.size→P (.done (.ret .none)) {s with heap:=(((s.heap.update a (Obj.mapSeq fun _=>(#[]:Array Value))).push (seqObj "tuple" vs.toArray 0)).push (seqObj "list" #[] 0)).update a (Obj.mapSeq fun _=>arr.map (·.2))}:=fun arr hp hs=>by
  have k1:=Heap.SameBut.update (((s.heap.update a (Obj.mapSeq fun _=>(#[]:Array Value))).push (seqObj "tuple" vs.toArray 0)).push (seqObj "list" #[] 0)) a (Obj.mapSeq fun _=>arr.map (·.2))
  exact h _ _ _ (get?_update_seq o2 fun _=>arr.map (·.2)) (Hh hS hp hs) fun b o hb q=>(k1.2 b hb).trans (iB _ (iB _ ((k0.2 b hb).trans q)))
 rw[list_sort_plain]
 refine zz0 (listItems_at ho rfl (zz0 (listUpdate_at ho rfl ?_ (big _ (by simp)) (pT _))))
 refine zz0 (seqEpoch_at o0 rfl (zz0 (wpAny_newTuple ?_ (big _ (by simp)))))
 refine zz0 (wpAny_newList (zz7 ?_) (pT _))
 dsimp only
 by_cases many:2≤vs.length
 ·obtain⟨u,v,r,e⟩:∃u v r,vs=u::v::r:=by
   rcases vs with _ |⟨u,_ |⟨v,r⟩⟩
   ·cases many
   ·simp at many
   ·exact⟨u,v,r,rfl⟩
  rw[if_neg (by simpa using many),if_neg (by simpa using many),show keyKind' vs.toArray=pure oneType' by rw[e];exact keyKind_strs (by rw[←e];exact hS)]
  refine zz0 (zz1 (zz0 (zz2 (NhLS.se (E:=E) (a:=vs.toArray.zip vs.toArray) (g:=7) (MK (prog:=prog) (w:=w) (A:=A) (s:=_))
   (Q:=fun _ st=>∃b pd g,st=SortSt.mk' oneType' b pd g none∧b.toList.Perm (vs.zip vs)∧NhLS.So strKind.toKeyOrd tx b 0 b.size) (by simpa using Aw hS)
   fun b pd g hp hs=>⟨b,pd,g,rfl,by simpa using hp,by have:=hp.length_eq;simp only[Zb]at this;rw[this];exact hs⟩) ?_ fun _ _ e=>e)))
  rintro⟨⟨⟩,st⟩ s' ⟨rfl,b,pd,g,e,hp,hs⟩
  dsimp only at e
  subst e
  have hz:b.size=vs.length:=by have:=hp.length_eq;simpa using this
  dsimp only
  refine zz0 (seqEpoch_at o2 rfl (zz0 (listUpdate_at o2 rfl ?_ (pT _) (by have:=big _ hz;show(b.map _).size≤_;rw[Array.size_map];omega))))
  rw[if_neg (by simp)]
  exact zz1 (back b hp hs)
 ·rw[if_pos (by simp;omega),if_pos (by simp;omega)]
  refine zz0 (zz1 ?_)
  rw[StateT.run_pure]
  refine zz0 (zz1 ?_)
  dsimp only
  refine zz0 (seqEpoch_at o2 rfl (zz0 (listUpdate_at o2 rfl ?_ (pT _) (by show((vs.toArray.zip vs.toArray).map _).size≤_;rw[sizeLine_eq];simp;omega))))
  rw[if_neg (by simp)]
  refine zz1 (back (vs.toArray.zip vs.toArray) (by simp) fun i j _ hij hj=>?_)
  simp at hj
  omega
theorem xD{l:Addr}(hl:s.heap.IsList l vs.toArray)(hS:StrsAre vs ss)(hn:vs.length < 65536)
  (h:∀h' out c,h'.get? (s.heap.objs.size+1)=some (seqObj "list" out c)→Told ss out→NhSG.Keep s.heap h'→Q (.ref (s.heap.objs.size+1)) {s with heap:=h'}):
  wpAny (model prog w) A (call (.builtin "sorted") [.ref l]) Q E s:=by
 have sz:((s.heap.push (seqObj "list" #[] 0)).update s.heap.objs.size (Obj.mapSeq (· ++vs.toArray))).objs.size=s.heap.objs.size+1:=by rw[Heap.size_update,size_push']
 have k0:=Heap.SameBut.update (s.heap.push (seqObj "list" #[] 0)) s.heap.objs.size (Obj.mapSeq (· ++vs.toArray))
 have iR:=nY ((s.heap.push (seqObj "list" #[] 0)).update s.heap.objs.size (Obj.mapSeq (· ++vs.toArray))) (o:=seqObj "list" vs.toArray 0) rfl
 rw[sz]at iR
 refine Calls.call_function_entry kind_sorted plain_sorted entry_sorted (args_sorted1 _) ?_
 unfold Builtin.«sorted»
 refine zz0 (m:=checkCount "sorted" 1 1 _) (zz1 (zz0 (collect_list hl (zz0 (wpAny_newList ?_ (by rw[sizeLine_eq];omega))))))
 rw[sz]
 refine zz0 (zz7 (wpAny_call_entry slot_list_sort ⟨_,iR,rfl⟩ entry_list_sort (EM (ss:=ss) iR hS hn fun h' out c q1 q2 q3=>⟨_,rfl,zz1 ⟨_,rfl,?_⟩⟩) (args_list_sort _)))
 refine h h' out c q1 q2 fun b o q=>q3 b o ?_ (iB _ ((k0.2 b ?_).trans (iB _ q)))
 ·exact jE (yP (iC q))
 ·exact jE (iC q)
end
end NhSS
namespace PL
open PySem L2 Nh
section
variable {X:Cx} {e:Expr} {m1:Bool} {f:aY} {p pos:Pos}
theorem vS:CallR X (.builtin "sorted") (fun xs H Q=>∃(p:Addr) (ss:List Str),xs=[.ref p]∧SqL X.K H p (ss.map V.str)∧ss.length < 65536∧∀l,H l=none→Q (.ref l) (fg H l (.lst ((jI ss).map V.str)))):=by
 intro pins s σ H xs us Q I r h
 obtain⟨p,ss,rfl,hq,h64,q⟩:=h
 cases r with
 |cons r rr=>
  cases rr
  cases r
  obtain⟨its,rv,pl,hz⟩:=I.list hq
  have hS:=rT rv
  have hl:its.length=ss.length:=by have:=rv.length;simpa using this.symm
  refine NhSS.xD pl.isList hS (by omega) fun h' out e he ⟨zs,a1,a2,a3⟩ hk=>?_
  have:=rS a2 a3
  subst this
  refine⟨.ref (s.heap.objs.size+1),_,I.laid (t':=s.toks) hk (Nat.le_succ _) (show ObjOk X.prog X.w _ _ _ (.lst ((jI ss).map V.str))from⟨?_,out.toList,e,rV a1,he⟩),rfl,q _ (I.hok.fresh (Nat.le_succ _))⟩
  rw[c_,mi]
  exact i_ (by omega)
def lG(g:aY):aY:=fun E=>(g E).bind fun a=>match look a.2 a.1 with
 |some (.list ds)=>(kX ds).bind fun ss=>if ss.length < 65536 then some (.ow ((jI ss).map .str),a.2)else none
 |_=>none
theorem zY(hg:Gl X "sorted") (hm:X.mg "sorted"=none) (ha:EX X e m1 f) (he:starEach [e] X.env=[(false,eval e X.env)]:=by rfl):EX X (.Call (.Name "sorted" p) [e] [] pos) m1 (lG f):=by
 refine bx (jT vS hg hm PyProof.Rows.boot_sorted (cw ha eY he) (by decide) (by decide) he rfl) fun σ H Q z=>?_
 obtain⟨B,E,xs,Xs,res,E',fr,cl,e,q⟩:=z
 obtain⟨⟨s,E1⟩,e1,e⟩:=Za.mp e
 refine⟨B,E,xs,Xs,s,E1,fr,cl,e1,fun v1 H1 ⟨F,A,fr1⟩=>?_⟩
 obtain⟨A',fr2⟩:=fr1.pop
 simp only at e
 split at e
 ·rename_i ds ld
  obtain⟨ss,es,e⟩:=Za.mp e
  split at e
  ·rename_i hc
   cases e
   have r:=(fr1.look0 ld).1
   cases r with
   |lst h1 h2=>
    have:=qR h2 es
    subst this
    exact⟨_,ss,rfl,h1,hc,fun l hl=>q _ _ ⟨F,_,fr2.newl (lD _) hl⟩⟩
  ·cases e
 ·cases e
end
end PL
namespace PL
open PySem L2 Nh
def zZ(i:Nat)(f:aY):aY:=fun E=>match E[i]? with
 |some (.sh (.str x))=>(f E).bind fun a=>match look a.2 a.1 with
  |some (.str y)=>match Builtin.Str.occurrences x y 0 x.length 1 with
   |k::_=>some (.sh (.int k),a.2)
   |[]=>none
  |_=>none
 |_=>none
def ML:V→List V→Hp→VK→Prop:=fun x vs H Q=>∃z y k r,x=.str z∧vs=[.str y]∧Builtin.Str.occurrences z y 0 z.length 1=k::r∧Q (.int (k:Nat)) H
theorem EN:Kn X "str.index" ML:=by
 intro pins s σ H x vs v us Q I rx rv h
 obtain⟨z,y,k,r,rfl,rfl,ho,q⟩:=h
 obtain⟨t,rfl⟩:=rx
 obtain⟨u,rfl,ru⟩:=rv.one
 obtain⟨t2,rfl⟩:=ru
 exact PySem.SC.index ho ⟨.int k,H,I.tok _,⟨_,rfl⟩,q⟩
section
variable {X:Cx} {e:Expr} {m1:Bool} {f:aY} {x:Str} {p apos cpos:Pos}
theorem EO(i:Nat) (he:EX X e m1 f) (hN:X.N[i]? =some x:=by rfl) (hv:HR X.env.scope x:=by first |exact Or.inl rfl |exact Or.inr (Or.inl rfl) |exact Or.inr (Or.inr rfl)) (hd:(x == ("__debug__":Str))=false:=by decide) (hcd:(x == ("__classdict__":Str))=false:=by decide)
  (hs:starEach [e] X.env=[(false,eval e X.env)]:=by rfl) (hbase:attributeBase (.Name x p) "index" X.env (eval (.Name x p) X.env)=eval (.Name x p) X.env:=by rfl)
  (hfew:((backTo cpos (starEach [e] X.env)).all (fun x=> !x.1)&&(backToKw cpos (keywordEach [] X.env)).all (fun x=>x.1.isSome)
   &&decide (([e]:List Expr).length+([]:List Keyword).length+(if ([]:List Keyword).isEmpty then 0 else 1) < 30))=true:=by rfl) (hline:(apos.endLine == cpos.line)=true:=by rfl):
  EX X (.Call (.Attribute (.Name x p) "index" apos) [e] [] cpos) m1 (zZ i f):=by
 refine bx (wx PySem.F.plainAttrs_str PySem.F.slot_str_index PySem.F.type_str_index EN (oT hN hv hd hcd) (cw he eY hs) hbase hfew hline hs rfl) fun σ H Q z=>?_
 obtain⟨B,E,xs,Xs,res,E',⟨F,A,fr⟩,cl,e,q⟩:=z
 unfold zZ at e
 split at e
 ·rename_i z ei
  obtain⟨⟨s,E1⟩,e1,e⟩:=Za.mp e
  simp only at e
  split at e
  ·rename_i y ly
   split at e
   ·rename_i k r ho
    cases e
    obtain⟨o,A1,eo,rfl,v0,rfl,rp⟩:=fr.var ei
    cases rp
    refine⟨_,eo,rfl,B,E,xs,Xs,_,E',⟨F,A,fr⟩,cl,e1,fun v H1 ⟨F1,A1,fr1⟩=>?_⟩
    have r1:=(fr1.look0 ly).1
    obtain⟨A',fr2⟩:=fr1.pop
    cases r1
    exact⟨z,y,k,r,rfl,rfl,ho,q _ _ ⟨F1,A',fr2.push ⟨rfl,_,rfl,.int _⟩⟩⟩
   ·cases e
  ·cases e
 ·cases e
end
end PL
namespace NhSG
set_option autoImplicit false
open PySem PyProof PyProof.Rows PySem.W
section
variable {prog:Program} {w:World} {A:Around} {E:Value→Shared→Prop} {s:Shared} {l q:Addr} {vs:List Value} {ys:List Ky} {Q:Value→Shared→Prop}
theorem z_(hl:s.heap.IsList l vs.toArray)(hlen:ys.length=vs.length)(h64:vs.length < 65536)
  (turn:∀(i:Nat) (v:Value) (y:Ky),vs[i]? =some v→ys[i]? =some y→oB prog w A.in1.in1 (.ref q) s v y)
  (h:∀D h' tk out c,h'.get? D=some (seqObj "list" out c)→s.heap.objs.size≤D→CJ ys vs out.toList→Keep s.heap h'→Q (.ref D) {s with heap:=h',toks:=tk}):
  wpAny (model prog w) A (call (.builtin "sorted") [.ref l] [(Str.ofString "key",.ref q)]) Q E s:=by
 refine call_function_entry_kw kind_sorted plain_sorted entry_sorted (ksk_s1 _ _) ?_
 unfold Builtin.«sorted»
 refine zz0 (m:=checkCount "sorted" 1 1 _) (zz1 ?_)
 refine zz0 (collect_list hl ?_ (by rw[sizeLine_eq];omega))
 refine zz0 (wpAny_newList ?_ (by rw[sizeLine_eq];omega))
 have hsz:((s.heap.push (seqObj "list" #[] 0)).update s.heap.objs.size (Obj.mapSeq (· ++vs.toArray))).objs.size=s.heap.objs.size+1:=by
  rw[Heap.size_update,size_push']
 have hoL:(((s.heap.push (seqObj "list" #[] 0)).update s.heap.objs.size (Obj.mapSeq (· ++vs.toArray))).push (seqObj "list" vs.toArray 0)).get? (s.heap.objs.size+1)=some (seqObj "list" vs.toArray 0):=by
  rw[←hsz];exact nY _ rfl
 have keep:Keep s.heap (((s.heap.push (seqObj "list" #[] 0)).update s.heap.objs.size (Obj.mapSeq (· ++vs.toArray))).push (seqObj "list" vs.toArray 0)):=fun b o q=>by
  have hlt:b < s.heap.objs.size:=iC q
  rw[Heap.get?_push_ne _ _ _ (by rw[hsz];exact jE (yP hlt)),Heap.get?_update_ne _ _ _ _ (jE hlt),Heap.get?_push_ne _ _ _ (jE hlt)]
  exact q
 show wpAny _ _ _ _ _ {s with heap:=((s.heap.push (seqObj "list" #[] 0)).update s.heap.objs.size (Obj.mapSeq (· ++vs.toArray))).push (seqObj "list" vs.toArray 0)}
 rw[hsz]
 have h0:s.heap.get? (s.heap.objs.size+1)=none:=Heap.get?_none_of_le (Nat.le_succ _)
 refine zz0 (zz7 (wpAny_call_entry_kw slot_list_sort ⟨_,hoL,rfl⟩ entry_list_sort ?body (ksk_l1 _ _)))
 case body=>
  show wpAny (model prog w) A.in1.in1 (Builtin.«list.sort» ⟨[.ref (s.heap.objs.size+1)],[(Str.ofString "key",.ref q)]⟩) _ _ _
  rw[ksk_t1]
  refine Hg (s:={s with heap:=((s.heap.push (seqObj "list" #[] 0)).update s.heap.objs.size (Obj.mapSeq (· ++vs.toArray))).push (seqObj "list" vs.toArray 0)}) (s0:=s) keep ⟨s.toks,rfl⟩ h0 (by rw[size_push',hsz];omega) hoL h64 hlen turn fun h' tk out c g1 g2 g3=>⟨_,rfl,?_⟩
  exact zz1 ⟨_,rfl,h _ h' tk out c g1 (Nat.le_succ _) g2 g3⟩
end
end NhSG
namespace NhSG
set_option autoImplicit false
open PySem
def kw(z:Str):Ky:=(z.length,z.cps.toList)
def wl(a b:Str):Bool:= !iQ (kw b) (kw a)
def mI(ws:List Str):List Str:=ws.mergeSort wl
def yV:Value→Option Str
 |.str z _=>some z
 |_=>none
theorem EQ{a b:Str}(h:kw a=kw b):a=b:=by
 have e:a.cps.toList=b.cps.toList:=congrArg Prod.snd h
 cases a;cases b
 congr
 exact Array.toList_inj.mp e
theorem CK(a b c:Str)(h1:wl a b=true)(h2:wl b c=true):wl a c=true:=by
 unfold wl at *
 simp only[BO]at *
 exact(PyProof.Rows.KeyOrd.kle_trans (O:=(h7 default).toKeyOrd) h1 h2)
theorem CL(a b:Str):(wl a b||wl b a)=true:=by
 unfold wl
 by_cases h:iQ (kw b) (kw a)=true
 ·have:iQ (kw a) (kw b)=false:=PyProof.Rows.KeyOrd.klt_asymm (O:=(h7 default).toKeyOrd) h
  simp[this]
 ·simp[Bool.not_eq_true _▸h]
theorem ER{a b:Str}(h1:wl a b=true)(h2:wl b a=true):a=b:=by
 unfold wl at *
 simp only[BO]at *
 exact EQ ((h7 default).total _ _ h2 h1)
theorem uq{qs ws:List Str}(hp:qs.Perm ws)(hs:qs.Pairwise fun a b=>wl a b=true):qs=mI ws:=by
 have h1:(mI ws).Pairwise fun a b=>wl a b=true:=List.pairwise_mergeSort CK CL ws
 have h2:qs.Perm (mI ws):=hp.trans (BM ws wl).symm
 exact h2.eq_of_pairwise (fun a b _ _ x y=>ER x y) hs h1
theorem CM{ws:List Str}{vs out:List Value}(hv:vs.map yV=ws.map some)(h:CJ (ws.map kw) vs out):out.map yV=(mI ws).map some:=by
 obtain⟨ps,hp,hs,rfl⟩:=h
 have key:∀(ws:List Str) (vs:List Value),vs.map yV=ws.map some→∀p∈(ws.map kw).zip vs,∃z,p.1=kw z∧yV p.2=some z:=fun ws=>by
  induction ws with
  |nil=>intro vs _ p hp;simp at hp
  |cons w ws ih=>
   intro vs hv p hp
   cases vs with
   |nil=>simp at hp
   |cons v vs=>
    simp only[eR,List.cons.injEq]at hv
    rw[eR,List.zip_cons_cons]at hp
    rcases Zap.mp hp with rfl |hp
    ·exact⟨w,rfl,hv.1⟩
    ·exact ih vs hv.2 p hp
 have zm:∀(ws:List Str) (vs:List Value),vs.map yV=ws.map some→((ws.map kw).zip vs).map (fun p=>yV p.2)=ws.map some:=fun ws=>by
  induction ws with
  |nil=>intro vs _;simp
  |cons w ws ih=>
   intro vs hv
   cases vs with
   |nil=>simp at hv
   |cons v vs=>
    simp only[eR,List.cons.injEq]at hv
    simp only[eR,List.zip_cons_cons,hv.1,ih vs hv.2]
 have ex:∀ps:List (Ky×Value),(∀p∈ps,∃z,p.1=kw z∧yV p.2=some z)→∃qs:List Str,ps.map (·.1)=qs.map kw∧ps.map (fun p=>yV p.2)=qs.map some:=fun ps=>by
  induction ps with
  |nil=>intro _;exact⟨[],rfl,rfl⟩
  |cons p ps ih=>
   intro h
   obtain⟨z,h1,h2⟩:=h p (g_ ..)
   obtain⟨qs,e1,e2⟩:=ih fun q hq=>h q (gN _ hq)
   exact⟨z::qs,by simp[h1,e1],by simp[h2,e2]⟩
 obtain⟨qs,e1,e2⟩:=ex ps fun p hp'=>key ws vs hv p (hp.mem_iff.mp hp')
 have perm:qs.Perm ws:=by
  have h1:=hp.map (fun p=>yV p.2)
  rw[e2,zm ws vs hv]at h1
  have h2:=h1.filterMap id
  simpa using h2
 have srt:qs.Pairwise fun a b=>wl a b=true:=by
  have h1:(ps.map (·.1)).Pairwise fun a b=>iQ b a=false:=List.pairwise_map.mpr hs
  rw[e1,List.pairwise_map]at h1
  exact h1.imp fun h=>by unfold wl;simp[h]
 rw[List.map_map]
 show ps.map (fun p=>yV p.2)=_
 rw[e2,uq perm srt]
end NhSG
namespace NhSG
open PySem PySem.Spec PySem.Calls PyProof PyProof.Rows PySem.W
section
variable {prog:Program} {w:World} {A:Around} {E:Value→Shared→Prop} {s:Shared} {Q:Value→Shared→Prop}
theorem ES{env:Env}  {t:Tok} {m mg mb:Str→Option Value} {p1 p3 p4 pos:Pos} {x1} (hk:env.scope.kind=.function) (hx:env.kindOf x=some .local) (hl:env.kindOf "len"=some .globalImplicit)
  (hn:s.heap.Ns env.locals m) (hm:m x=some (.str z t)) (hg:s.heap.Ns env.globals mg) (hlg:mg "len"=none) (hb:s.heap.Ns env.builtins mb) (hlb:mb "len"=some (.builtin "len")) (hz:z.length≤sizeLine)
  (h:∀h' tk r,Keep s.heap h'→IsKy h' r (kw z)→Q r {s with heap:=h',toks:=tk})
  (hd:(x == ("__debug__":Str))=false:=by decide) (h1:starEach [Expr.Call (.Name "len" p1) [.Name x p2] [] p3,.Name x p4] env=(false,eval (.Call (.Name "len" p1) [.Name x p2] [] p3) env)::starEach [Expr.Name x p4] env:=by rfl)
  (h2:starEach [Expr.Name x p4] env=[(false,eval (.Name x p4) env)]:=by rfl) (h3:starEach [Expr.Name x p2] env=(false,eval (.Name x p2) env)::starEach [] env:=by rfl):
  wpAny (model prog w) A (eval (.Tuple [.Call (.Name "len" p1) [.Name x p2] [] p3,.Name x p4] x1 pos) env) Q E s:=by
 refine wpAny_Tuple_spliced ?_
 rw[h1,h2]
 show wpAny _ _ (spliced ((false,eval (.Call (.Name "len" p1) [.Name x p2] [] p3) env)::backTo pos [(false,eval (.Name x p4) env)])) _ _ s
 refine Calls.spliced_cons ?_
 refine zz6 (Calls.Name_function_global hk hl (Calls.loadGlobal_builtin hg hlg hb hlb ?_) (by decide))
 refine PyProof.Rows.callWith_builtin1 ?_ h3 rfl
 rw[h3]
 show wpAny _ _ (spliced ((false,eval (.Name x p2) env)::backTo p3 (starEach [] env))) _ _ s
 refine Calls.spliced_cons (wpAny_Name (wpAny_loadName_local hk hx hn hm ?_) hd)
 show wpAny _ _ (spliced []) _ _ s
 refine Calls.spliced_nil ?_
 refine len_str (by have:=hz;rw[sizeLine_eq]at this;omega) ?_
 show wpAny _ _ (spliced [(false,standAt pos >>= fun _=>eval (.Name x p4) env)]) _ _ _
 refine Calls.spliced_cons (zz0 (wpAny_standAt (wpAny_Name (wpAny_loadName_local hk hx hn hm ?_) hd)))
 refine Calls.spliced_nil ⟨by rw[sizeLine_eq];simp,?_⟩
 exact h _ _ _ (fun b o e=>iB _ e) ⟨_,_,_,_,_,z,t,rfl,nY _ rfl,rfl,rfl,rfl,rfl⟩
structure KMod (h:Heap):Prop where
 g:∃mg,h.Ns mainGlobals mg∧mg "len"=none
 b:∃mb,h.Ns builtinsNs mb∧mb "len"=some (.builtin "len")
 lim:h.NoLimit
theorem KMod.keeps(a:KMod h)(k:Keep h h'):KMod h':=
 ⟨let ⟨mg,e,r⟩:=a.g;⟨mg,e.keeps k,r⟩,let ⟨mb,e,r⟩:=a.b;⟨mb,e.keeps k,r⟩,a.lim.keeps k⟩
theorem xE{f c':Addr}{name:Str}{t:Tok}{ctv:Value}{p1 p3 p4 pos:Pos}{x1}(M:KMod s.heap)(hroom:A.depth < recursionLimit)
  (ho:s.heap.get? f=some (kla_obj name qual params (.Tuple [.Call (.Name "len" p1) [.Name x p2] [] p3,.Name x p4] x1 pos) scope [] pm c' ctv)) (hcd:s.heap.CodeRec (.ref c') qual) (hz:z.length≤sizeLine)
  (hbind:bindArgs (kla_fn name qual params (.Tuple [.Call (.Name "len" p1) [.Name x p2] [] p3,.Name x p4] x1 pos) scope [] pm (.ref c') ctv) ⟨[.str z t],[]⟩=pure [(x,.str z t)])
  (hx:scope.names.lookup x=some .local) (hlen:scope.names.lookup (Str.ofString "len")=some .globalImplicit) (hco:scope.isCoroutine=false) (hgen:scope.isGenerator=false) (hk:scope.kind=.function) (hcell:∀x∈scope.names,x.2≠ .cell)
  (hd:(x == ("__debug__":Str))=false):oB prog w A (.ref f) s (.str z t) (kw z):=by
 intro h tk kp
 refine wpAny_call (kla_callFunE hroom (kp _ _ ho) rfl hco hgen rfl (hcd.keeps kp) ?_)
 rw[hbind]
 refine zz1 (wpAny_newFunctionEnv hcell (fun y hy=>?_) (fun h₁ hns hsb=>⟨((M.keeps kp).lim).fresh _ hsb,?_⟩) hk)
 ·rw[Zaf.mp hy];exact hx
 have hk₁:Keep h h₁:=fun b o e=>hsb.extBut b o (jE (iC e)) (iB _ e)
 have M1:=(M.keeps kp).keeps hk₁
 obtain⟨mg,g1,g2⟩:=M1.g
 obtain⟨mb,b1,b2⟩:=M1.b
 refine kla_codeExpr (ES (t:=t) (z:=z) (m:=fun y=>List.lookup y [(x,Value.str z t)].reverse) hk hx hlen hns ?_ g1 g2 b1 b2 hz (fun h' tk' r k1 k2=>?_) hd)
 ·simp
 ·exact⟨h',tk',rfl,hk₁.trans k1,k2⟩
end
end NhSG
namespace PL
open PySem L2 Nh
def vT(f:aY):aY:=fun E=>(f E).bind fun a=>match look a.2 a.1 with
 |some (.list ds)=>(kX ds).bind fun ss=>if (decide (ss.length < 65536)&&ss.all fun z=>decide (z.length≤1000))=true then some (.ow ((NhSG.mI ss).map .str),a.2)else none
 |_=>none
theorem xF:∀{ws:List Str} {vs:List Value},Vals (ws.map V.str) vs→vs.map NhSG.yV=ws.map some
 |[],_,.nil=>rfl
 |w::ws,_,.cons r t=>by
  obtain⟨u,rfl⟩:=r
  simp only[eR,xF t]
  rfl
theorem xG:∀{ws:List Str} {vs:List Value},vs.map NhSG.yV=ws.map some→Vals (ws.map V.str) vs
 |[],[],_=>.nil
 |[],_::_,h=>by simp at h
 |_::_,[],h=>by simp at h
 |w::ws,v::vs,h=>by
  simp only[eR,List.cons.injEq]at h
  refine .cons ?_ (xG h.2)
  have h1:=h.1
  unfold NhSG.yV at h1
  split at h1
  ·cases h1;exact⟨_,rfl⟩
  ·cases h1
section
variable {X:Cx} {pins:List (Addr×Obj)} {σ:L2.St} {H:Hp} {s:Shared}
theorem Lq(I:Inv X pins σ H s) (hl:X.mg "len"=none):NhSG.KMod s.heap:=
 ⟨⟨X.mg,I.mod.glob.keeps I.bk,hl⟩,let ⟨mb,h1,h2⟩:=I.mod.blt;⟨mb,h1.keeps I.bk,(h2 _ (by decide)).trans rfl⟩,I.nolimit⟩
theorem ur{l q:Addr}{ss:List Str}{Q:VK}(I:Inv X pins σ H s)(hq:SqL X.K H l (ss.map V.str))(h64:ss.length < 65536)
  (turn:∀z t,z∈ss→NhSG.oB X.prog X.w X.A.in1.in1 (.ref q) s (.str z t) (NhSG.kw z))
  (h:∀D,H D=none→Q (.ref D) (fg H D (.lst ((NhSG.mI ss).map V.str)))):
  wpAny (model X.prog X.w) X.A (call (.builtin "sorted") [.ref l] [(Str.ofString "key",.ref q)]) (EP X pins σ Q) X.xe s:=by
 obtain⟨its,rv,pl,hz⟩:=I.list hq
 have hv:=xF rv
 have hlen:its.length=ss.length:=by have:=congrArg List.length hv;simpa using this
 refine NhSG.z_ (ys:=ss.map NhSG.kw) pl.isList (by simp[hlen]) (by omega) (fun i v y hv' hy'=>?_) fun D h' tk out c g1 g2 g3 g4=>?_
 ·rw[List.getElem?_map]at hy'
  obtain⟨z,hz1,rfl⟩:=Zad.mp hy'
  have e:(its.map NhSG.yV)[i]? =(ss.map some)[i]? :=by rw[hv]
  rw[List.getElem?_map,List.getElem?_map,hv',hz1]at e
  have e1:NhSG.yV v=some z:=by simpa using e
  unfold NhSG.yV at e1
  split at e1
  ·cases e1;exact turn _ _ (List.mem_of_getElem? hz1)
  ·cases e1
 ·have ot:=NhSG.CM hv g3
  refine⟨.ref D,_,I.laid (t':=tk) g4 g2 (show ObjOk X.prog X.w _ _ _ (.lst ((NhSG.mI ss).map V.str))from⟨?_,out.toList,c,xG ot,by simpa using g1⟩),rfl,h D (I.hok.fresh g2)⟩
  rw[c_]
  have:(NhSG.mI ss).length=ss.length:=(BM ss NhSG.wl).length_eq
  rw[this,sizeLine_eq]
  omega
end
theorem xH(h:z.length≤1000):z.length≤sizeLine:=by rw[sizeLine_eq];omega
end PL
namespace PL
open PySem L2 Nh
theorem tH{pos:Pos}{a b:Int}{c cv:Value}(l:List Value)(h:TriplesOk l)(e:codeAmong pos (l++[rawInt a,rawInt b,c])=some cv):codeAmong pos l=some cv∨cv=c:=by
 fun_induction TriplesOk l with
 |case1=>
  simp only[Z8,codeAmong,rawInt]at e
  split at e
  ·cases e;exact .inr rfl
  ·cases e
 |case2 a' t b' u x dv ih=>
  simp only[Z9,codeAmong]at e ⊢
  split at e
  ·rename_i hc;rw[if_pos hc];exact .inl e
  ·rename_i hc;rw[if_neg hc];exact ih h e
 |case3 l h1 h2=>exact h.elim
section
variable {X:Cx} {pins:List (Addr×Obj)} {σ:L2.St} {H:Hp} {s:Shared}
theorem CN{P c':Addr}{q:Str}{ps:Array Value}{a b:Int}{tk:Nat}(I:Inv X pins σ H s)(hT:H P=some (.tbl q))(hps:s.heap.get? P=some (tabObj ps))
  (hx:∀b o,b≠P→s.heap.get? b=some o→h'.get? b=some o) (hc:s.heap.objs.size≤c') (hr:h'.CodeRec (.ref c') q) (hP:h'.get? P=some (tabObj (ps++#[rawInt a,rawInt b,.ref c']))):
  Inv X pins σ (fg H c' (.own P)) {s with heap:=h',toks:=tk}:=by
 have hn:H c'=none:=I.hok.fresh hc
 have neP:∀b,H b=none→b≠P:=fun b n z=>by subst z;rw[hT]at n;cases n
 obtain⟨ps0,e0,t0,r0⟩:=I.hok P _ hT
 rw[hps]at e0
 cases e0
 refine I.un (h':=h') (t':=tk) ⟨fun b o e n _ _=>hx b o (neP b n) e,fun b o e n _ _=>⟨o.slots,hx b o (neP b n) e⟩,fun b o e n _=>?_,fun b o e _=>?_,fun b xs e=>?_,fun b o u e=>?_,fun b z e=>?_⟩ fun d o e=>?_
 ·rw[aM (jE (nZ (iC e) hc))];exact n
 ·by_cases hb:b=P
  ·subst hb;exact⟨_,hP⟩
  ·exact⟨o,hx b o hb e⟩
 ·rw[aM (bN e hn)];exact e
 ·rw[aM (bN e hn)];exact e
 ·rw[aM (bN e hn)];exact e
 ·by_cases hd:d=c'
  ·subst hd
   rw[ce]at e
   cases e
   obtain⟨c2,oc,_,_,hc2,hoc,_⟩:=hr
   cases hc2
   exact⟨oc,hoc⟩
  ·rw[aM hd]at e
   by_cases hp:d=P
   ·subst hp
    rw[hT]at e
    cases e
    refine⟨_,hP,by simpa using TriplesOk_snoc a b (.ref c') _ t0,fun pos cv z=>?_⟩
    rcases tH (a:=a) (b:=b) (c:=.ref c') ps.toList t0 (by simpa using z)with z |z
    ·obtain⟨c,ec,ho,c2,oc,vs,tq,hc2,hoc,hr2⟩:=r0 pos cv z
     subst ec
     cases hc2
     refine⟨c,rfl,by rw[aM (bN ho hn)];exact ho,c,oc,vs,tq,rfl,hx _ _ (fun z=>?_) hoc,hr2⟩
     subst z
     rw[hT]at ho
     cases ho
    ·subst z
     exact⟨c',rfl,ce,hr⟩
   ·refine(I.hok d o e).stay (fun b u hb q=>hx b u ?_ q) (fun b hb=>by rw[aM (bN hb hn)];exact hb) fun b xs hb=>by rw[aM (bN hb hn)];exact hb
    rcases hb with rfl |hb
    ·exact hp
    ·intro z
     subst z
     rw[hT]at hb
     cases hb
theorem Lr{P:Addr}{ps:Array Value}(I:Inv X pins σ H s)(hps:s.heap.get? P=some (tabObj ps)):mainGlobals≠P∧s.heap.BuiltinsAt X.mg P:=by
 have hg:=I.mod.glob.keeps I.bk
 obtain⟨bm,ob,b1,b2,b3,b4,b5,b6⟩:=I.mod.bmain
 have b3':=I.bk _ _ b3
 refine⟨fun q=>?_,bm,ob,b1,b2,fun q=>?_,fun q=>?_,b3',b4,b5,b6⟩
 ·obtain⟨o,es,ep,e,hd,_⟩:=hg
  rw[q,hps]at e;cases e;cases hd
 ·obtain⟨o,es,ep,e,hd,_⟩:=hg
  rw[q,e]at b3';cases b3';rw[hd]at b6;cases b6
 ·rw[q,hps]at b3';cases b3';cases b4
end
section
variable {X:Cx} {e:Expr} {m:Bool} {f:aY} {p pos kp lp:Pos} {y:Str} {k:Nat} {p1 p2 p3 p4 tp:Pos} {x1:Nat} {params:Arguments} {scope:Scope} {c P:Addr}
theorem ET(hcode:X.env.code=.ref c) (hP:Dt X.K=some P) (hC:codeHdIn X.K c P=true) (hr:Room k X.A) (hg:Gl X "sorted") (hm:X.mg "sorted"=none) (hl:X.mg "len"=none) (ha:EX X e m f)
  (hq:X.env.qual++"<lambda>"=Str.ofString "in_told_order.<locals>.<lambda>") (hdef:defaultsOf params X.env=([],[]):=by rfl)
  (hbind:∀(name qual:Str) (pm cd ctv u:Value),bindArgs (PySem.W.kla_fn name qual params (.Tuple [.Call (.Name "len" p1) [.Name y p2] [] p3,.Name y p4] x1 tp) scope [] pm cd ctv) ⟨[u],[]⟩=pure [(y,u)]:=by intros;rfl)
  (sc1:scope.names.lookup y=some .local:=by rfl) (hJ:scope.names.lookup (Str.ofString "len")=some .globalImplicit:=by rfl) (sc3:scope.isCoroutine=false:=by rfl) (sc4:scope.isGenerator=false:=by rfl) (sc5:scope.kind=.function:=by rfl)
  (sc6:∀x∈scope.names,x.2≠ .cell:=by decide) (sc7:∀x∈scope.names,x.2≠ .free:=by decide) (hdy:(y == ("__debug__":Str))=false:=by decide)
  (he:starEach [e] X.env=[(false,eval e X.env)]:=by rfl)
  (he':backTo pos (starEach [e] X.env)=(false,eval e X.env)::backTo pos (starEach [] X.env):=by rfl) (hpl:(backTo pos (starEach [e] X.env)).any (·.1)=false:=by rfl)
  (hall:(backToKw pos (keywordEach [⟨some "key",.Lambda params (.Tuple [.Call (.Name "len" p1) [.Name y p2] [] p3,.Name y p4] x1 tp) scope lp,kp⟩] X.env)).all (·.1.isSome)=true:=by rfl)
  (hkw:(backToKw pos (keywordEach [⟨some "key",.Lambda params (.Tuple [.Call (.Name "len" p1) [.Name y p2] [] p3,.Name y p4] x1 tp) scope lp,kp⟩] X.env)).any (·.1.isNone)=false:=by rfl)
  (hnm:(backToKw pos (keywordEach [⟨some "key",.Lambda params (.Tuple [.Call (.Name "len" p1) [.Name y p2] [] p3,.Name y p4] x1 tp) scope lp,kp⟩] X.env)).filterMap (·.1)=[Str.ofString "key"]:=by rfl):
  EX X (.Call (.Name "sorted" p) [e] [⟨some "key",.Lambda params (.Tuple [.Call (.Name "len" p1) [.Name y p2] [] p3,.Name y p4] x1 tp) scope lp,kp⟩] pos) m (vT f):=by
 intro pins s σ H Q I z
 obtain⟨B,E,xs,Xs,res,E',fr,cl,e0,q⟩:=z
 obtain⟨⟨r1,E1⟩,e1,e2⟩:=Za.mp e0
 simp only at e2
 split at e2
 ·rename_i ds ld
  obtain⟨ss,en,e3⟩:=Za.mp e2
  split at e3
  ·rename_i hc
   cases e3
   simp only[yQ,decide_eq_true_eq,List.all_eq_true]at hc
   refine zz6 (mZ I hg hm PyProof.Rows.boot_sorted ?_ (by decide) (by decide))
   refine PyProof.Rows.callWith_kw (fA (cw ha eY he pos pins s σ H (fun vs H1=>∃p,vs=[.ref p]∧SqL X.K H1 p (ss.map V.str)∧∀H2,Same H1 H2→∀D,H2 D=none→Q (.ref D) (fg H2 D (.lst ((NhSG.mI ss).map V.str)))) I ⟨B,E,xs,Xs,r1,_,fr,cl,e1,fun v1 H1 ⟨F,A,fr1⟩=>?_⟩) fun us s2 ⟨vs,H1,I1,r1,p0,ev,hq1,q1⟩=>?_) he' hpl hall hkw
   ·obtain⟨A',fr2⟩:=fr1.pop
    have r:=(fr1.look0 ld).1
    cases r with
    |lst h1 h2=>
     have:=qR h2 en
     subst this
     exact⟨_,rfl,h1,fun H2 g D hD=>q _ _ ⟨_,_,(fr2.grow g).newl (lD _) hD⟩⟩
   ·subst ev
    cases r1 with
    |cons r rr=>
     cases rr
     cases r
     refine PyProof.Rows.kws_cons (PySem.W.kla_eval hdef ?_)
     have hT:H1 P=some (.tbl (Str.ofString "in_told_order.<locals>.<lambda>")):=I1.tab P _ (by unfold qx;rw[if_pos hP])
     obtain⟨ps,hps,ht,hit⟩:=I1.hok P _ hT
     obtain⟨hgP,hbA⟩:=Lr I1 hps
     have hcl:closureFor scope X.env=pure []:=closureFor_none sc7
     have C:=PySem.W.codeHd_of_K I1.kIn hC
     have hroom:X.A.in1.in1.depth < recursionLimit:=by have:=hr.dp;show X.A.depth < recursionLimit;omega
     cases hca:codeAmong lp ps.toList with
     |none=>
      refine PySem.W.kla_makeFunction hcl I1.ok.glob (I1.mod.glob.keeps I1.bk) hcode C hps ht hca hgP hbA fun c' ctv h' tk hx hge hlt hrec htb=>?_
      rw[hq]at hrec
      have I2:=CN (tk:=tk) I1 hT hps (fun b o hb e=>hx b o hb e) hge hrec htb
      have g:Same H1 (fg H1 c' (.own P)):=i9 (I1.hok.fresh hge) _
      have I3:=I2.kept (t':=tk) (fun b o e=>iB (PySem.W.kla_obj "<lambda>" (X.env.qual++"<lambda>") params (.Tuple [.Call (.Name "len" p1) [.Name y p2] [] p3,.Name y p4] x1 tp) scope [] ((X.mg "__name__").getD .none) c' ctv) e)
      refine PyProof.Rows.kws_nil ?_
      rw[hnm]
      refine ur I3 (g.seq hq1) hc.1 (fun z t hz=>?_) (q1 _ g)
      exact NhSG.xE (Lq I3 hl) hroom (nY _ rfl) (by rw[hq];exact hrec.keeps fun b o e=>iB _ e) (xH (hc.2 z hz)) (hbind _ _ _ _ _ _) sc1 hJ sc3 sc4 sc5 sc6 hdy
     |some cv=>
      obtain⟨c',rfl,ho,hrec⟩:=hit lp cv hca
      refine PySem.W.kla_makeFunctionHit hcl I1.ok.glob (I1.mod.glob.keeps I1.bk) hcode C hps ht hca hbA fun ctv h' tk hx hsz=>?_
      have I3:=I1.kept (t':=tk) (fun b o e=>iB (PySem.W.kla_obj "<lambda>" (X.env.qual++"<lambda>") params (.Tuple [.Call (.Name "len" p1) [.Name y p2] [] p3,.Name y p4] x1 tp) scope [] ((X.mg "__name__").getD .none) c' ctv) (hx b o e))
      refine PyProof.Rows.kws_nil ?_
      rw[hnm]
      refine ur I3 hq1 hc.1 (fun z t hz=>?_) (q1 _ (Same.refl _))
      exact NhSG.xE (Lq I3 hl) hroom (nY _ rfl) (by rw[hq];exact hrec.keeps fun b o e=>iB _ (hx b o e)) (xH (hc.2 z hz)) (hbind _ _ _ _ _ _) sc1 hJ sc3 sc4 sc5 sc6 hdy
  ·cases e3
 ·cases e2
end
structure DefT (K:Frag) (mg:Str→Option Value) (x:Str) (st:Stmt) (ps:List Str) (c P:Addr):Prop where
 ex:∃(f:Addr) (oc:Value) (od:Option Addr) (kV doc pm:Value) (an:Option Addr) (ct:Value) (osl:Array (Option Value)),
  K.lookup f=some ⟨oc,od,.func (fnOf x x (dw st) (bI st) (aq st) .none kV doc pm an (.ref c) ct),osl⟩∧codeIn K (.ref c) x=true∧keepIn K (.ref f)=true∧mg x=some (.ref f)∧
   Binds K (fnOf x x (dw st) (bI st) (aq st) .none kV doc pm an (.ref c) ct) ps []
 hd:codeHdIn K c P=true
 tp:Dt K=some P
theorem MM{w:World}{K:Frag}{mg:Str→Option Value}{base:Heap}{N:List Str}{a n:Nat}{g:bX}{c T:Addr}(D:DefT K mg x st ps c T)(S:FnScope N ps (aq st))(hpa:ps.length=a)(hNn:N.length=n)(hps:a≤n)
  (hbody:∀(f:Addr) (A:Around) (outer:List Env) (s:Shared) (H:Hp) (E:XK),Room k (A.deeper (PyProof.Rows.envOfC x (aq st) s.heap.objs.size f (.ref c)))→
   AK (kl yR P w K mg base N x (aq st) f (.ref c) A outer s H E).nox (bI st) g):Own P w K mg base (k+1) x ps (gh K (fi a n g)):=by
 subst hpa hNn
 obtain⟨f,oc,od,kV,doc,pm,an,ct,osl,lk,hcd,kp,hm,hb⟩:=D.ex
 refine⟨f,_,DH lk hcd S (fun vs H Q E h=>?_) (fun A outer s H vs Q E hr h=>?_),hb,hm,kp⟩
 ·obtain⟨ds,r,e,rp,_⟩:=h
  unfold fi at e
  split at e
  ·rename_i hl
   rw[rp.len];exact hl
  ·cases e
 obtain⟨ds,r,e,rp,q⟩:=h
 unfold fi at e
 split at e
 ·rename_i hl
  refine⟨_,(hbody f A outer s H E hr).nox,?_⟩
  obtain⟨⟨E',fl⟩,e1,e⟩:=Za.mp e
  refine⟨H,eZ N.length ds,[],[],E',fl,⟨H,[],om rp (by omega)⟩,rfl,e1,?_⟩
  cases fl with
  |nx=>
   cases e
   rintro σ' H' ⟨F',A',fr'⟩
   exact q _ _ (fr'.bf.trans fr'.fh) .non
  |bk=>cases e
  |ct=>cases e
  |rt r'=>
   rintro σ' v H' ⟨F',A',fr'⟩
   obtain⟨s1,s2⟩:=fr'.resultO e
   exact q v H' s1 s2
 ·cases e
theorem EU{K:Frag} {f c P:Addr} {occ:Value} {od odc:Option Addr}  {sl slc:Array (Option Value)} {vs:Array Value} (a:nsIn K mainGlobals "in_told_order"=some (some (.ref f))) (l:K.lookup f=some ⟨oc,od,.func fd,sl⟩) (hc:fd.code=.ref c)
  (lc:K.lookup c=some ⟨occ,odc,.fields vs,slc⟩) (hv:(vs[11]? :Option Value)=some (.ref P)):Dt K=some P:=by
 unfold Dt
 rw[a]
 simp only[l,hc,lc,hv]
theorem EV{K:Frag}  {f c P:Addr} {occ:Value} {od odc:Option Addr}  {sl slc:Array (Option Value)} {vs:Array Value} (X:K.In h) (a:nsIn K mainGlobals "in_told_order"=some (some (.ref f))) (l:K.lookup f=some ⟨oc,od,.func fd,sl⟩) (hc:fd.code=.ref c)
  (lc:K.lookup c=some ⟨occ,odc,.fields vs,slc⟩) (hv:(vs[11]? :Option Value)=some (.ref P)) (hd:codeHdIn K c P=true) (hn:K.lookup P=none) (ht:h.get? P=some (tabObj #[])):AY K h:=fun b q e=>by
 have tp:=EU a l hc lc hv
 unfold qx at e
 split at e
 ·rename_i hb
  rw[tp]at hb
  cases hb
  exact⟨ht,⟨c,PySem.W.codeHd_of_K X hd⟩,hn⟩
 ·cases e
end PL
namespace PL
open PySem L2 Nh
section
variable {X:Cx}
theorem JK{h₀:ExceptHandler}{hs:List ExceptHandler}{pos:Pos}{g:bX}(hx:X.xe=fun _ _=>False)(h:AK X body g):SX X (.Try body (h₀::hs) [] [] pos) g:=by
 intro pins s σ H D I hw
 have q:=h pins s σ H D I hw
 rw[hx]at q
 refine wpAny_Try_except (zz2 q (fun f s1 z=>?_) fun _ _ z=>z.elim)
 cases f with
 |next=>exact wpAny_execs_nil z
 |brk=>exact z
 |cont=>exact z
 |ret u=>exact z
end
end PL
namespace NH
def eI(w:List Nat):Nat→Nat
 | 0=>0
 |n+1=>eI w n+if 97+n∈w then 2 ^ n else 0
theorem ut(w:List Nat):∀n,eI w n < 2 ^ n
 | 0=>by simp[eI]
 |n+1=>by
  have:=ut w n
  rw[eI,Nat.pow_succ]
  split <;> omega
theorem gY(w:List Nat):∀n i,(eI w n).testBit i=(decide (i < n)&&decide (97+i∈w))
 | 0,i=>by simp[eI]
 |n+1,i=>by
  have ih:=gY w n i
  have lt:=ut w n
  rw[eI]
  by_cases h:97+n∈w
  ·rw[if_pos h,Nat.add_comm]
   by_cases e:i=n
   ·subst e
    rw[Nat.testBit_two_pow_add_eq,ih]
    simp[h]
   ·by_cases l:i < n
    ·rw[Nat.testBit_two_pow_add_gt l,ih]
     simp[l,show i < n+1 by omega]
    ·have big:2 ^ n+eI w n < 2 ^ i:=by
      have:2 ^ (n+1)≤2 ^ i:=Nat.pow_le_pow_right (by decide) (by omega)
      rw[Nat.pow_succ]at this
      omega
     rw[Nat.testBit_lt_two_pow big]
     simp[show ¬i < n+1 by omega]
  ·rw[if_neg h,Nat.add_zero,ih]
   by_cases e:i=n
   ·subst e;simp[h]
   ·by_cases l:i < n
    ·simp[l,show i < n+1 by omega]
    ·simp[l,show ¬i < n+1 by omega]
def b8(w:List Nat):Nat:=eI w 26
def sf(w:List Nat):Prop:=∀a∈w,97≤a∧a < 97+26
theorem CO{a b:List Nat}(ha:sf a):b8 a &&& b8 b=b8 a↔∀x∈a,x∈b:=by
 unfold b8
 constructor
 ·intro h x hx
  have l:=ha x hx
  have:=congrArg (fun n=>n.testBit (x - 97)) h
  simp only[Nat.testBit_and,gY,show 97+(x - 97)=x by omega,show x - 97 < 26 by omega,hx]at this
  simpa using this
 ·intro h
  refine Nat.eq_of_testBit_eq fun i=>?_
  rw[Nat.testBit_and,gY,gY]
  by_cases m:97+i∈a
  ·simp[m,h _ m]
  ·simp[m]
theorem CP{a b:List Nat}(ha:sf a):b8 a &&& b8 b=0↔∀x∈a,x∉b:=by
 unfold b8
 constructor
 ·intro h x hx hb
  have l:=ha x hx
  have:=congrArg (fun n=>n.testBit (x - 97)) h
  simp only[Nat.testBit_and,gY,show 97+(x - 97)=x by omega,show x - 97 < 26 by omega,hx,hb]at this
  simp at this
 ·intro h
  refine Nat.eq_of_testBit_eq fun i=>?_
  rw[Nat.testBit_and,gY,gY,Nat.zero_testBit]
  by_cases m:97+i∈a
  ·simp[m,h _ m]
  ·simp[m]
end NH
namespace NhFam
abbrev Tx:=List Nat
def Srt(w:Tx):Prop:=w.Pairwise (· < ·)
def le(v w:Tx):Prop:=∀x∈v,x∈w
instance (v w:Tx):Decidable (le v w):=inferInstanceAs (Decidable (∀x∈v,x∈w))
theorem le.refl(v:Tx):le v v:=fun _ h=>h
theorem le.trans{u v w:Tx}(a:le u v)(b:le v w):le u w:=fun x h=>b x (a x h)
def Sub(U w:Tx):Prop:=Srt w∧le w U
theorem Srt.nodup{w:Tx}(h:Srt w):w.Nodup:=h.imp fun h=>jE h
theorem df:∀{w v:Tx},Srt v→Srt w→le v w→v.Sublist w
 |[],v,_,_,h=>by
  cases v with
  |nil=>exact .slnil
  |cons x v=>cases h x (g_ ..)
 |y::w,v,hv,hw,h=>by
  cases v with
  |nil=>exact List.nil_sublist _
  |cons x v=>
   have hw':=List.pairwise_cons.mp hw
   have hv':=List.pairwise_cons.mp hv
   by_cases e:x=y
   ·subst e
    refine(df hv'.2 hw'.2 fun z hz=>?_).cons_cons _
    rcases Zap.mp (h z (gN _ hz))with q |q
    ·have:=hv'.1 z hz;omega
    ·exact q
   ·have hx:x∈w:=(Zap.mp (h x (g_ ..))).resolve_left e
    have lt:=hw'.1 x hx
    refine(df hv hw'.2 fun z hz=>?_).cons _
    rcases Zap.mp (h z hz)with q |q
    ·subst q
     rcases Zap.mp hz with q |q
     ·omega
     ·have:=hv'.1 z q;omega
    ·exact q
theorem Srt.ext{v w:Tx}(hv:Srt v)(hw:Srt w)(a:le v w)(b:le w v):v=w:=
 (df hv hw a).eq_of_length (Nat.le_antisymm (df hv hw a).length_le (df hw hv b).length_le)
theorem EW{v w:Tx}(hv:Srt v)(hw:Srt w)(a:le v w)(n:v≠w):v.length < w.length:=by
 have s:=df hv hw a
 rcases Nat.lt_or_ge v.length w.length with h |h
 ·exact h
 ·exact absurd (s.eq_of_length (Nat.le_antisymm s.length_le h)) n
def key(w:Tx):NhSG.Ky:=((w.length:Int),w)
def lH(v w:Tx):Prop:=NhSG.iQ (key v) (key w)=true
theorem si{v w:Tx}(h:v.length < w.length):lH v w:=NhSG.ltKy_iff.mpr (.inl (by simp only[key];omega))
theorem sj(v:Tx):¬lH v v:=fun h=>by
 have:=(NhSG.h7 default).irrefl (key v)
 unfold lH at h
 rw[show NhSG.iQ (key v) (key v)=false from this]at h
 cases h
theorem uv{v w:Tx}(h1:¬lH v w)(h2:¬lH w v):v=w:=by
 have h:=(NhSG.h7 default).total (key v) (key w) (by simpa[lH]using h1) (by simpa[lH]using h2)
 exact congrArg Prod.snd h
theorem uw{u v w:Tx}(a:lH u v)(b:lH v w):lH u w:=(NhSG.h7 default).trans _ _ _ a b
theorem pf{v w:Tx}(a:lH v w):¬lH w v:=fun b=>sj v (uw a b)
def up(F:List Tx)(w:Tx):Prop:=∃v∈F,le v w
def Min(U:Tx)(f:Tx→Prop)(w:Tx):Prop:=Sub U w∧f w∧∀v,Sub U v→f v→le v w→v=w
structure Told (U:Tx) (L:List Tx) (f:Tx→Prop):Prop where
 srt:L.Pairwise lH
 mem:∀w,w∈L↔Min U f w
def xI(U:Tx)(f:Tx→Prop):Prop:=∀v w,Sub U v→Sub U w→le v w→f v→f w
theorem nj{U:Tx}{f:Tx→Prop}:∀(n:Nat) (w:Tx),w.length≤n→Sub U w→f w→∃v,Min U f v∧le v w
 |n,w,hn,hw,hf=>by
  by_cases h:∀v,Sub U v→f v→le v w→v=w
  ·exact⟨w,⟨hw,hf,h⟩,le.refl w⟩
  ·obtain⟨v,h⟩:=Classical.not_forall.mp h
   obtain⟨v1,h⟩:=Classical.not_imp.mp h
   obtain⟨v2,h⟩:=Classical.not_imp.mp h
   obtain⟨v3,v4⟩:=Classical.not_imp.mp h
   have:=EW v1.1 hw.1 v3 v4
   cases n with
   |zero=>omega
   |succ n=>
    obtain⟨u,a,b⟩:=nj n v (by omega) v1 v2
    exact⟨u,a,b.trans v3⟩
theorem Told.sub{U:Tx}{L:List Tx}{f:Tx→Prop}(h:Told U L f):∀w∈L,Sub U w:=fun w hw=>((h.mem w).mp hw).1
theorem Told.up_iff{U:Tx}{L:List Tx}{f:Tx→Prop}(h:Told U L f)(m:xI U f){w:Tx}(hw:Sub U w):up L w↔f w:=by
 constructor
 ·rintro⟨v,hv,l⟩
  have:=(h.mem v).mp hv
  exact m v w this.1 hw l this.2.1
 ·intro hf
  obtain⟨v,a,b⟩:=nj w.length w (gR _) hw hf
  exact⟨v,(h.mem v).mpr a,b⟩
theorem Min.congr{U:Tx}{f g:Tx→Prop}(h:∀w,Sub U w→(f w↔g w)){w:Tx}:Min U f w↔Min U g w:=by
 constructor
 ·rintro⟨a,b,c⟩;exact⟨a,(h w a).mp b,fun v v1 v2 v3=>c v v1 ((h v v1).mpr v2) v3⟩
 ·rintro⟨a,b,c⟩;exact⟨a,(h w a).mpr b,fun v v1 v2 v3=>c v v1 ((h v v1).mp v2) v3⟩
theorem Told.congr{U:Tx}{L:List Tx}{f g:Tx→Prop}(a:Told U L f)(h:∀w,Sub U w→(f w↔g w)):Told U L g:=⟨a.srt,fun w=>(a.mem w).trans (Min.congr h)⟩
theorem i5{L:List Tx}(h:L.Pairwise lH):L.Nodup:=h.imp fun {a b} h e=>by subst e;exact sj a h
theorem EY{L L':List Tx}(a:L.Pairwise lH)(b:L'.Pairwise lH)(h:∀w,w∈L↔w∈L'):L=L':=
 ((List.perm_ext_iff_of_nodup (i5 a) (i5 b)).mpr h).eq_of_pairwise (fun x y _ _ p q=>absurd q (pf p)) a b
theorem Told.uniq{U:Tx}{L L':List Tx}{f g:Tx→Prop}(a:Told U L f)(b:Told U L' g)(h:∀w,Sub U w→(f w↔g w)):L=L':=
 EY a.srt b.srt fun w=>(a.mem w).trans ((Min.congr h).trans (b.mem w).symm)
theorem qV(U:Tx)(F:List Tx):xI U (up F):=fun v w _ _ l ⟨u,hu,h⟩=>⟨u,hu,h.trans l⟩
theorem sk{U:Tx}{F:List Tx}(hF:∀v∈F,Sub U v){w:Tx}:Min U (up F) w↔w∈F∧∀v∈F,le v w→v=w:=by
 constructor
 ·rintro⟨a,⟨v,hv,l⟩,c⟩
  have e:=c v (hF v hv) ⟨v,hv,le.refl v⟩ l
  subst e
  exact⟨hv,fun u hu l=>c u (hF u hu) ⟨u,hu,le.refl u⟩ l⟩
 ·rintro⟨a,b⟩
  refine⟨hF w a,⟨w,a,le.refl w⟩,fun v hv ⟨u,hu,l⟩ lv=>?_⟩
  have e:=b u hu (l.trans lv)
  subst e
  exact hv.1.ext (hF u hu).1 lv l
def dE(K:List Tx):List Tx→List Tx
 |[]=>K
 |w::r=>if K.any (fun k=>decide (le k w))then dE K r else dE (K++[w]) r
theorem kz:∀(S K Pre:List Tx),(∀v∈Pre++S,Srt v)→(∀v∈Pre,∃k∈K,le k v)→(∀k∈K,k∈Pre)→(∀v∈Pre,∀w∈S,¬lH w v)→S.Pairwise (fun a b=>¬lH b a)→
  (∀k∈K,∀v∈Pre,le v k→v=k)→K.Pairwise lH→(dE K S).Pairwise lH∧∀w,w∈dE K S↔w∈Pre++S∧∀v∈Pre++S,le v w→v=w
 |[],K,Pre,hs,h1,h2,h3,h4,h5,h6=>by
  refine⟨h6,fun w=>?_⟩
  simp only[dE,oS]
  refine⟨fun hw=>⟨h2 w hw,h5 w hw⟩,fun⟨a,b⟩=>?_⟩
  obtain⟨k,hk,l⟩:=h1 w a
  rw[←b k (h2 k hk) l]
  exact hk
 |w::S,K,Pre,hs,h1,h2,h3,h4,h5,h6=>by
  have e:Pre++w::S=(Pre++[w])++S:=by simp
  have h4':=List.pairwise_cons.mp h4
  have sw:Srt w:=hs w (by simp)
  have back:∀k∈K,le w k→w=k:=fun k hk l=>Classical.byContradiction fun n=>h3 k (h2 k hk) w (by simp) (si (EW sw (hs k (by simp[h2 k hk])) l n))
  have o3:∀v∈Pre++[w],∀u∈S,¬lH u v:=fun v hv u hu=>by
   rcases Zai.mp hv with q |q
   ·exact h3 v q u (gN _ hu)
   ·rw[Zaf.mp q];exact h4'.1 u hu
  rw[e]at hs ⊢
  by_cases h:K.any (fun k=>decide (le k w))=true
  ·rw[dE,if_pos h]
   obtain⟨k0,hk0,l0⟩:=List.any_eq_true.mp h
   refine kz S K (Pre++[w]) hs (fun v hv=>?_) (fun k hk=>by simp[h2 k hk]) o3 h4'.2 (fun k hk v hv l=>?_) h6
   ·rcases Zai.mp hv with q |q
    ·exact h1 v q
    ·rw[Zaf.mp q];exact⟨k0,hk0,zz5 l0⟩
   ·rcases Zai.mp hv with q |q
    ·exact h5 k hk v q l
    ·rw[Zaf.mp q]at l ⊢;exact back k hk l
  ·rw[dE,if_neg h]
   have no:∀k∈K,¬le k w:=fun k hk l=>h (List.any_eq_true.mpr ⟨k,hk,zz4 l⟩)
   refine kz S (K++[w]) (Pre++[w]) hs (fun v hv=>?_) (fun k hk=>?_) o3 h4'.2 (fun k hk v hv l=>?_) ?_
   ·rcases Zai.mp hv with q |q
    ·obtain⟨k,hk,l⟩:=h1 v q;exact⟨k,by simp[hk],l⟩
    ·rw[Zaf.mp q];exact⟨w,by simp,le.refl w⟩
   ·rcases Zai.mp hk with q |q
    ·simp[h2 k q]
    ·simp[Zaf.mp q]
   ·rcases Zai.mp hk with p |p <;> rcases Zai.mp hv with q |q
    ·exact h5 k p v q l
    ·rw[Zaf.mp q]at l ⊢;exact back k p l
    ·rw[Zaf.mp p]at l ⊢
     obtain⟨k',hk',l'⟩:=h1 v q
     exact absurd (l'.trans l) (no k' hk')
    ·rw[Zaf.mp p,Zaf.mp q]
   ·refine List.pairwise_append.mpr ⟨h6,List.pairwise_singleton _ _,fun k hk u hu=>?_⟩
    rw[Zaf.mp hu]
    refine Classical.byContradiction fun n=>no k hk ?_
    rw[uv n (h3 k (h2 k hk) w (by simp))]
    exact le.refl w
def jK(F:List Tx):List Tx:=F.mergeSort fun a b=> !NhSG.iQ (key b) (key a)
theorem sortT_mem{F:List Tx}{w:Tx}:w∈jK F↔w∈F:=(BM F _).mem_iff
theorem uz(F:List Tx):(jK F).Pairwise fun a b=>¬lH b a:=by
 have h:=List.pairwise_mergeSort (le:=fun a b=> !NhSG.iQ (key b) (key a)) (fun a b c h1 h2=>by
  have h1':¬lH b a:=by simpa[lH]using h1
  have h2':¬lH c b:=by simpa[lH]using h2
  have:¬lH c a:=fun z=>by
   by_cases q:lH a b
   ·exact h2' (uw z q)
   ·rw[uv q h1']at z;exact h2' z
  simpa[lH]using this) (fun a b=>by
  by_cases q:NhSG.iQ (key b) (key a)=true
  ·have:¬lH a b:=pf q
   have:NhSG.iQ (key a) (key b)=false:=by simpa[lH]using this
   simp[this]
  ·simp[Bool.not_eq_true _▸q]) F
 exact h.imp fun {a b} h=>by simpa[lH]using h
def aJ(F:List Tx):List Tx:=dE [] (jK F)
theorem dF{U:Tx}{F:List Tx}(hF:∀v∈F,Sub U v):Told U (aJ F) (up F):=by
 obtain⟨a,b⟩:=kz (jK F) [] [] (fun v hv=>(hF v (sortT_mem.mp (by simpa using hv))).1) (fun v hv=>by cases hv) (fun v hv=>by cases hv) (fun v hv=>by cases hv) (uz F) (fun v hv=>by cases hv) .nil
 refine⟨a,fun w=>(b w).trans ?_⟩
 rw[sk hF]
 simp only[Z8,sortT_mem]
def comp(U w:Tx):Tx:=U.filter fun x=> !decide (x∈w)
theorem comp_mem{U w:Tx}{x:Nat}:x∈comp U w↔x∈U∧x∉w:=by simp[comp]
theorem oC{U w:Tx}(hU:Srt U):Sub U (comp U w):=⟨hU.filter _,fun x hx=>(comp_mem.mp hx).1⟩
theorem CQ{U w:Tx}(hU:Srt U)(hw:Sub U w):comp U (comp U w)=w:=by
 refine(oC hU).1.ext hw.1 (fun x hx=>?_) fun x hx=>?_
 ·obtain⟨a,b⟩:=comp_mem.mp hx
  exact Classical.byContradiction fun n=>b (comp_mem.mpr ⟨a,n⟩)
 ·exact comp_mem.mpr ⟨hw.2 x hx,fun z=>(comp_mem.mp z).2 hx⟩
theorem CS{U v w:Tx}(h:le v w):le (comp U w) (comp U v):=fun x hx=>comp_mem.mpr ⟨(comp_mem.mp hx).1,fun z=>(comp_mem.mp hx).2 (h x z)⟩
def EZ(U:Tx)(f:Tx→Prop)(w:Tx):Prop:=¬f (comp U w)
theorem CT{U:Tx}(hU:Srt U){f:Tx→Prop}(m:xI U f):xI U (EZ U f):=fun v w _ _ l h z=>h (m _ _ (oC hU) (oC hU) (CS l) z)
def jg(F:List Tx)(w:Tx):Prop:=∀v∈F,∃x∈v,x∈w
theorem mj{U:Tx}{F:List Tx}(hF:∀v∈F,Sub U v){w:Tx}:jg F w↔EZ U (up F) w:=by
 constructor
 ·rintro h ⟨v,hv,l⟩
  obtain⟨x,hx,hw⟩:=h v hv
  exact(comp_mem.mp (l x hx)).2 hw
 ·intro h v hv
  refine Classical.byContradiction fun n=>h ⟨v,hv,fun x hx=>comp_mem.mpr ⟨(hF v hv).2 x hx,fun z=>n ⟨x,hx,z⟩⟩⟩
theorem Aa{U V:Tx}{f:Tx→Prop}{L:List Tx}(hU:Srt U)(hV:Srt V)(l:le V U)(m:xI U f)(h:∀w,Sub U w→f w→f (w.filter fun x=>decide (x∈V)))(t:Told V L f):Told U L f:=by
 refine⟨t.srt,fun w=>(t.mem w).trans ?_⟩
 have up':∀{w},Sub V w→Sub U w:=fun a=>⟨a.1,a.2.trans l⟩
 have cut:∀{w},Sub U w→Sub V (w.filter fun x=>decide (x∈V)):=fun a=>⟨a.1.filter _,fun x hx=>by simpa using(Zas.mp hx).2⟩
 have cl:∀w:Tx,le (w.filter fun x=>decide (x∈V)) w:=fun w x hx=>(Zas.mp hx).1
 constructor
 ·rintro⟨a,b,c⟩
  refine⟨up' a,b,fun v v1 v2 v3=>?_⟩
  have e:=c _ (cut v1) (h v v1 v2) ((cl v).trans v3)
  refine v1.1.ext a.1 v3 ?_
  rw[←e]
  exact cl v
 ·rintro⟨a,b,c⟩
  have e:=c _ (up' (cut a)) (h w a b) (cl w)
  rw[←e]
  refine⟨cut a,h w a b,fun v v1 v2 v3=>?_⟩
  rw[e]at v3 ⊢
  exact c v (up' v1) v2 v3
end NhFam
namespace NhFam
def fV(w:Tx):List Tx:=w.foldl (fun acc a=>acc++acc.map (· ++[a])) [[]]
theorem xJ:∀(V:Tx) (acc:List Tx) (w:Tx),w∈V.foldl (fun acc a=>acc++acc.map (· ++[a])) acc↔∃u∈acc,∃t,t.Sublist V∧w=u++t
 |[],acc,w=>by
  constructor
  ·intro h;exact⟨w,h,[],.slnil,by simp⟩
  ·rintro⟨u,hu,t,ht,rfl⟩
   have:t=[]:=by simpa using ht
   subst this
   simpa using hu
 |a::V,acc,w=>by
  rw[List.foldl_cons,xJ V]
  constructor
  ·rintro⟨u,hu,t,ht,rfl⟩
   rcases Zai.mp hu with q |q
   ·exact⟨u,q,t,ht.cons _,rfl⟩
   ·obtain⟨v,hv,rfl⟩:=Zay.mp q
    exact⟨v,hv,a::t,ht.cons_cons _,by simp⟩
  ·rintro⟨u,hu,t,ht,rfl⟩
   cases ht with
   |cons _ h=>exact⟨u,by simp[hu],t,h,rfl⟩
   |cons_cons _ h=>exact⟨u++[a],by simp[hu],_,h,by simp⟩
theorem fm{V:Tx}(hV:Srt V){w:Tx}:w∈fV V↔Sub V w:=by
 unfold fV
 rw[xJ]
 constructor
 ·rintro⟨u,hu,t,ht,rfl⟩
  rw[Zaf.mp hu,List.nil_append]
  exact⟨List.Pairwise.sublist ht hV,fun x hx=>ht.subset hx⟩
 ·intro h
  exact⟨[],by simp,w,df h.1 hV h.2,rfl⟩
theorem j9(V:Tx):(fV V).length=2 ^ V.length:=by
 have key:∀(V:Tx) (acc:List Tx),(V.foldl (fun acc a=>acc++acc.map (· ++[a])) acc).length=acc.length*2 ^ V.length:=fun V=>by
  induction V with
  |nil=>intro acc;simp
  |cons a V ih=>
   intro acc
   rw[List.foldl_cons,ih,iK,c_,List.length_cons,Nat.pow_succ,←Nat.two_mul,Nat.mul_comm 2,Nat.mul_assoc,Nat.mul_comm 2]
 unfold fV
 rw[key]
 simp
def kZ(F:List Tx)(w:Tx):Bool:=F.all fun v=> !decide (∀x∈v,x∉w)
theorem CU{F:List Tx}{w:Tx}:kZ F w=true↔jg F w:=by
 unfold kZ jg
 rw[List.all_eq_true]
 refine⟨fun h v hv=>?_,fun h v hv=>?_⟩
 ·have:=h v hv
  simp only[BO,decide_eq_false_iff_not]at this
  obtain⟨x,h⟩:=Classical.not_forall.mp this
  obtain⟨a,b⟩:=Classical.not_imp.mp h
  exact⟨x,a,Classical.not_not.mp b⟩
 ·obtain⟨x,a,b⟩:=h v hv
  simp only[BO,decide_eq_false_iff_not]
  exact fun z=>z x a b
theorem sm{U V:Tx}{f:Tx→Prop}{G:List Tx}(hU:Srt U)(hV:Srt V)(l:le V U)(m:xI U f)(hG:∀w,w∈G↔Sub V w∧f w)(h:∀w,Sub U w→f w→f (w.filter fun x=>decide (x∈V))):Told U (aJ G) f:=by
 refine Aa hU hV l m h ((dF fun v hv=>((hG v).mp hv).1).congr fun w hw=>?_)
 constructor
 ·rintro⟨v,hv,q⟩
  obtain⟨a,b⟩:=(hG v).mp hv
  exact m v w ⟨a.1,a.2.trans l⟩ ⟨hw.1,hw.2.trans l⟩ q b
 ·intro q
  exact⟨w,(hG w).mpr ⟨hw,q⟩,le.refl w⟩
theorem xK{U:Tx}{F:List Tx}(hF:∀v∈F,Sub U v){w:Tx}:jg (aJ F) w↔jg F w:=by
 have t:=dF hF
 constructor
 ·intro h v hv
  obtain⟨k,hk,l⟩:=(t.up_iff (qV U F) (hF v hv)).mpr ⟨v,hv,le.refl v⟩
  obtain⟨x,a,b⟩:=h k hk
  exact⟨x,l x a,b⟩
 ·intro h v hv
  exact h v ((sk hF).mp ((t.mem v).mp hv)).1
def sq(F:List Tx)(V:Tx):List Tx:=aJ ((fV V).filter (kZ (aJ F)))
theorem CV{F:List Tx}{V w:Tx}(hF:∀v∈F,le v V)(h:jg F w):jg F (w.filter fun x=>decide (x∈V)):=fun v hv=>by
 obtain⟨x,a,b⟩:=h v hv
 exact⟨x,a,Zas.mpr ⟨b,zz4 (hF v hv x a)⟩⟩
theorem ph{U V:Tx}{F:List Tx}(hU:Srt U)(hV:Srt V)(l:le V U)(hF:∀v∈F,Sub U v)(hFV:∀v∈F,le v V):Told U (sq F V) (EZ U (up F)):=by
 refine(sm (f:=jg F) hU hV l (fun v w _ _ q h u hu=>?_) (fun w=>?_) fun w _ h=>CV hFV h).congr fun w hw=>mj hF
 ·obtain⟨x,a,b⟩:=h u hu
  exact⟨x,a,q x b⟩
 ·rw[Zas,fm hV,CU,xK hF]
end NhFam
namespace NH
variable {α:Type} [DecidableEq α]
theorem uA{a:List (α×Int)}(h:Red a):Red (contr a):=by
 have:=lm h
 unfold contr
 generalize a.reverse=b at this
 induction b with
 |nil=>trivial
 |cons p b ih=>
  refine Red.cons (by have:=this.head;simpa using this) (fun q hq=>?_) (ih this.tail)
  cases b with
  |nil=>cases hq
  |cons r b=>
   simp only[eR,List.head?_cons,Option.mem_def,Option.some.injEq]at hq
   subst hq
   exact this.next r (by simp)
end NH
namespace Nh
open PySem L2 PL
theorem E7{l a m b:List α}{i j:Int}(h:l=a++m++b)(hi:i=a.length)(hj:j=a.length+m.length):cutL l (some i) (some j)=m:=by
 subst h hi
 unfold cutL
 rw[hj,show((a.length:Int)+m.length)=((a.length+m.length:Nat):Int) by omega,HT.qO,HT.qO]
 simp
end Nh
namespace NH
def MN:Nat→Nat→Nat
 |_,0=>1
 | 0,_+1=>0
 |n+1,k+1=>MN n (k+1)+MN n k
def MO:Nat→Nat→Int
 |_,0=>1
 | 0,_+1=>0
 |m+1,k+1=>MO m (k+1) - MO (m+1) k
def ch(n:Int)(k:Nat):Int:=match n with
 |.ofNat n=>(MN n k:Int)
 |.negSucc m=>MO (m+1) k
def ff(n:Int):Nat→Int
 | 0=>1
 |k+1=>ff n k*(n - k)
section
variable {α:Type}
def conv(f g:List α→Int):List α→Int
 |[]=>f []*g []
 |a::w=>f []*g (a::w)+conv (fun u=>f (a::u)) g w
end
section
variable {α:Type} [DecidableEq α]
def Nu(p:α×Int)(w:List α):Int:=if w.all (fun b=>decide (b=p.1))then ch p.2 w.length else 0
def vs(j:Nat)(m n:Int):Nat→Int
 | 0=>ch m j
 |k+1=>ch m j*ch n (k+1)+vs (j+1) m n k
end
end NH
namespace NH
variable {α:Type} [DecidableEq α]
end NH
namespace Nh
open PySem L2 PL
def CordOk(c:List Pc):Prop:=∀p∈c,p.1 < 128∧p.2.natAbs < 2 ^ 100
theorem CordOk.n(h:CordOk c):NailsOk c:=fun p hp=>(h p hp).1
end Nh
namespace NH
section
variable {α:Type} [DecidableEq α]
def de(P:α→Bool)(c:List (α×Int)):List (α×Int):=c.filter fun p=>P p.1
theorem E8(P:α→Bool)(r:List (α×Int))(h:Red r)(p:α×Int):short (de P (stp r p))=if P p.1 then stp (short (de P r)) p else short (de P r):=by
 cases r with
 |nil=>
  by_cases k:p.2=0
  ·obtain⟨n,a⟩:=p
   simp only at k
   subst k
   simp[stp,de,short,stk]
  ·by_cases hp:P p.1=true <;> simp[stp,de,short,stk,k,hp]
 |cons x r=>
  rw[jV]
  by_cases e:x.1=p.1
  ·have hx:de P (x::r)=if P p.1 then x::de P r else de P r:=by
    unfold de
    rw[wm,e]
   by_cases hp:P p.1=true
   ·rw[hx,if_pos hp,if_pos hp,gS]
    have s:=AF (jW (de P r)) p.1 x.2 p.2
    have ex:(p.1,x.2)=x:=by rw[←e]
    rw[ex]at s
    rw[s]
    unfold qP
    rw[if_pos e]
    by_cases z:x.2+p.2=0
    ·rw[if_pos z,z,rn (jW _)]
     rfl
    ·rw[if_neg z]
     show short (de P ((p.1,x.2+p.2)::r))=_
     unfold de
     rw[wm,if_pos hp,gS]
   ·rw[hx,if_neg hp,if_neg hp]
    unfold qP
    rw[if_pos e]
    by_cases z:x.2+p.2=0
    ·rw[if_pos z];rfl
    ·rw[if_neg z]
     show short (de P ((p.1,x.2+p.2)::r))=_
     unfold de
     rw[wm,if_neg hp]
  ·unfold qP
   rw[if_neg e]
   by_cases k:p.2=0
   ·rw[if_pos k]
    by_cases hp:P p.1=true
    ·rw[if_pos hp]
     obtain⟨n,a⟩:=p
     simp only at k
     subst k
     rw[rn (jW _)]
     rfl
    ·rw[if_neg hp];rfl
   ·rw[if_neg k]
    show short (de P (p::x::r))=_
    by_cases hp:P p.1=true
    ·rw[if_pos hp,←gS]
     unfold de
     rw[wm,if_pos hp]
    ·rw[if_neg hp]
     unfold de
     rw[wm,if_neg hp]
theorem nq(P:α→Bool):∀c:List (α×Int),short (de P (short c))=short (de P c)
 |[]=>rfl
 |p::c=>by
  rw[gS,E8 P _ (jW c),nq P c]
  by_cases hp:P p.1=true
  ·rw[if_pos hp,←gS]
   unfold de
   rw[wm,if_pos hp]
  ·rw[if_neg hp]
   unfold de
   rw[wm,if_neg hp]
theorem E9(P:α→Bool){c d:List (α×Int)}(h:short c=short d):short (de P c)=short (de P d):=by rw[←nq P c,h,nq]
theorem CW(P Q:α→Bool)(c:List (α×Int)):de P (de Q c)=de (fun n=>P n&&Q n) c:=by
 unfold de
 rw[List.filter_filter]
theorem nr(P Q:α→Bool){c:List (α×Int)}(h:short (de Q c)=[]):short (de (fun n=>P n&&Q n) c)=[]:=by
 rw[←CW,E9 P (h.trans (by rfl:([]:List (α×Int))=short []))]
 rfl
theorem qf(P:α→Bool)(c d:List (α×Int)):de P (c++d)=de P c++de P d:=List.filter_append ..
end
end NH
namespace Nh
open PySem L2 PL
def lp(p q:Pc):Bool:=if p.1=q.1 then decide (p.2 < q.2)else decide (p.1 < q.1)
def ll:List Pc→List Pc→Bool
 |[],[]=>false
 |[],_::_=>true
 |_::_,[]=>false
 |x::xs,y::ys=>if x=y then ll xs ys else lp x y
theorem CY(p:Pc):lp p p=false:=by simp[lp]
theorem E_{p q r:Pc}(h:lp p q=true)(k:lp q r=true):lp p r=true:=by
 unfold lp at *
 by_cases e1:p.1=q.1
 ·by_cases e2:q.1=r.1
  ·rw[if_pos e1]at h;rw[if_pos e2]at k;rw[if_pos (e1.trans e2)]
   simp only[decide_eq_true_eq]at *;omega
  ·rw[if_neg e2]at k;rw[if_neg (by rw[e1];exact e2)]
   simp only[decide_eq_true_eq]at *;omega
 ·by_cases e2:q.1=r.1
  ·rw[if_neg e1]at h;rw[if_neg (by rw[←e2];exact e1)]
   simp only[decide_eq_true_eq]at *;omega
  ·rw[if_neg e1]at h;rw[if_neg e2]at k
   simp only[decide_eq_true_eq]at h k
   rw[if_neg (by omega)]
   simp only[decide_eq_true_eq];omega
theorem pi:∀a:List Pc,ll a a=false
 |[]=>rfl
 |x::a=>by simp[ll,pi a]
theorem xL:∀{a b c:List Pc},ll a b=true→ll b c=true→ll a c=true
 |[],[],c,h,k=>by cases h
 |[],y::b,[],h,k=>by cases k
 |[],y::b,z::c,h,k=>rfl
 |x::a,[],c,h,k=>by cases h
 |x::a,y::b,[],h,k=>by cases k
 |x::a,y::b,z::c,h,k=>by
  unfold ll at *
  by_cases e1:x=y
  ·subst e1
   rw[if_pos rfl]at h
   by_cases e2:x=z
   ·rw[if_pos e2]at k ⊢
    exact xL h k
   ·rw[if_neg e2]at k ⊢
    exact k
  ·rw[if_neg e1]at h
   by_cases e2:y=z
   ·subst e2
    rw[if_neg e1]
    exact h
   ·rw[if_neg e2]at k
    have q:=E_ h k
    have:x≠z:=fun e=>by rw[e,CY]at q;cases q
    rw[if_neg this]
    exact q
def vU(a:List Pc)(p:Nat):List Pc:=a.drop p++a.take p
def MP(a:List Pc)(p:Nat):Prop:=∃q,q < a.length∧ll (vU a q) (vU a p)=true
theorem xM(a:List Pc):∀n,0 < n→n≤a.length→∃m,m < n∧∀p,p < n→ll (vU a p) (vU a m)=false
 | 0,h,_=>absurd h (by omega)
 | 1,_,_=>⟨0,by omega,fun p hp=>by rw[show p=0 by omega];exact pi _⟩
 |n+2,_,hn=>by
  obtain⟨m,hm,h⟩:=xM a (n+1) (by omega) (by omega)
  cases c:ll (vU a (n+1)) (vU a m)with
  |false=>
   refine⟨m,by omega,fun p hp=>?_⟩
   by_cases e:p=n+1
   ·rw[e];exact c
   ·exact h p (by omega)
  |true=>
   refine⟨n+1,by omega,fun p hp=>?_⟩
   by_cases e:p=n+1
   ·rw[e];exact pi _
   ·cases d:ll (vU a p) (vU a (n+1))with
    |false=>rfl
    |true=>rw[←h p (by omega),xL d c]
def Ls(a w:List Pc):Prop:=(∃p,p≤a.length∧w=vU a p)∧∀p,p≤a.length→ll (vU a p) w=false
theorem sr(a:List Pc):vU a 0=a:=by simp[vU]
theorem Fa(a:List Pc):vU a a.length=a:=by simp[vU]
theorem Lu{a:List Pc}{r:Nat}(hr:r < a.length)(h:∀p,p < a.length→vU a p=vU a r∨MP a p):Ls a (vU a r):=by
 obtain⟨m,hm,k⟩:=xM a a.length (by omega) (gR _)
 have e:vU a m=vU a r:=by
  rcases h m hm with e |⟨q,hq,o⟩
  ·exact e
  ·rw[k q hq]at o;cases o
 refine⟨⟨r,by omega,rfl⟩,fun p hp=>?_⟩
 rw[←e]
 by_cases ep:p=a.length
 ·rw[ep,Fa,←sr a]
  rw[sr]
  have:=k 0 (by omega)
  rwa [sr]at this
 ·exact k p (by omega)
structure Keep (a:List Pc) (i j k:Nat):Prop where
 ne:i≠j
 lo:i < a.length∨j < a.length
 kn:k≤a.length
 like:∀t,t < k→a[(i+t) % a.length]? =a[(j+t) % a.length]?
 out:∀p,p < a.length→p < i∨p < j→p≠i→p≠j→MP a p
 out1:∀p,p < a.length→p < i∨p < j→p≠min i j→MP a p
end Nh
namespace NH
variable {α:Type} [DecidableEq α]
theorem xN{a a':List (α×Int)}(h:short a=short a')(b:List (α×Int)):short (a++b)=short (a'++b):=by
 have k:stk a=stk a':=by
  have:=congrArg List.reverse h
  simpa[short]using this
 unfold short stk at *
 rw[List.foldl_append,List.foldl_append,k]
theorem uB{b b':List (α×Int)}(a:List (α×Int))(h:short b=short b'):short (a++b)=short (a++b'):=by
 rw[fR,fR]at h ⊢
 unfold rk at *
 rw[List.foldr_append,List.foldr_append,h]
theorem iS{a a' b b':List (α×Int)}(h:short a=short a')(k:short b=short b'):short (a++b)=short (a'++b'):=(xN h b).trans (uB a' k)
theorem Fb(A X B:List (α×Int)):short (A++(X++contr X)++B)=short (A++B):=by
 have:=B6 (A:=A) (B:=B) (X:=X++contr X) (Y:=[]) (DN X)
 simpa using this
theorem Hi(A X B:List (α×Int)):short (A++(contr X++X)++B)=short (A++B):=by
 have:=Fb A (contr X) B
 rwa [wz]at this
theorem uC{a a':List (α×Int)}(h:short a=short a'):short (contr a)=short (contr a'):=by
 have h1:short (contr a++(a++contr a'))=short (contr a++(a'++contr a')):=uB _ (xN h _)
 have h2:=Fb (contr a) a' []
 have h3:=Hi [] a (contr a')
 simp only[oS,Z8,n8]at h1 h2 h3
 rw[←h2,←h1,h3]
end NH
namespace NH
variable {α:Type} [DecidableEq α]
end NH
namespace NH
variable {α:Type} [DecidableEq α]
theorem qW:∀{a b:List (α×Int)},Red a→Red b→(∀x y,a.getLast? =some x→b.head? =some y→x.1≠y.1)→Red (a++b)
 |[],b,_,h,_=>h
 |[x],b,ha,hb,hj=>Red.cons ha.head (fun q hq=>hj x q rfl hq) hb
 |x::y::a,b,ha,hb,hj=>Red.cons ha.head (fun q hq=>ha.next q hq) (qW (a:=y::a) ha.tail hb fun u v hu hv=>hj u v (by simpa using hu) hv)
end NH
namespace NhTr
def MT(L:List (List Nat))(T:List Nat):Prop:=T.Nodup∧(∀S∈L,∃x∈S,x∈T)∧∀y∈T,∃S∈L,y∈S∧∀z∈S,z∈T→z=y
def Ap(A B:List Nat):Prop:=¬∀x,x∈A↔x∈B
def W(f:Nat→Nat)(j:Nat)(Ts:List (List Nat)):Nat:=(Ts.map fun T=>f (j+T.length)).sum
def wo(x:Nat)(T:List Nat):List Nat:=T.filter fun y=>decide (y≠x)
def Ds(x:Nat)(L:List (List Nat)):List (List Nat):=L.filter fun S=>decide (x∉S)
def on(x:Nat)(L:List (List Nat)):List (List Nat):=L.filter fun S=>decide (x∈S)
def G(f:Nat→Nat):Nat→Nat→Nat→Nat
 | 0,j,_=>f j
 |N+1,j,m=>max (f j) (max (if 4≤m then G f N j (m - 2)+G f N (j+1) (m - 4)else 0) (max (if 2≤min m (N+1)then G f N j (min m (N+1) - 1)+G f N (j+1) (min m (N+1) - 2)else 0) (if 1≤m then G f N (j+1) (m - 1)else 0)))
theorem wo_mem{x y:Nat}:y∈wo x T↔y∈T∧y≠x:=by simp[wo]
theorem oD(x:Nat):∀T:List Nat,T.length=(wo x T).length+T.count x
 |[]=>rfl
 |a::T=>by
  have:=oD x T
  unfold wo at *
  by_cases h:a=x
  ·subst h;simp at *;omega
  ·simp[h]at *;omega
theorem split(f:Nat→Nat)(j x:Nat):∀Ts:List (List Nat),(∀T∈Ts,T.Nodup)→W f j Ts=W f j (Ds x Ts)+W f (j+1) ((on x Ts).map (wo x))
 |[],_=>rfl
 |T::Ts,h=>by
  have ih:=split f j x Ts fun T hT=>h T (gN _ hT)
  have n:=h T (g_ ..)
  have c:=oD x T
  unfold W Ds on at *
  by_cases k:x∈T
  ·rw[n.count,if_pos k]at c
   simp only[k,eR,List.sum_cons,wm,not_true_eq_false,gv]
   rw[ih,c,show j+((wo x T).length+1)=j+1+(wo x T).length by omega]
   omega
  ·simp only[k,eR,List.sum_cons,wm,not_false_eq_true,gv]
   rw[ih]
   omega
theorem Bi(f:Nat→Nat)(j:Nat){Ts:List (List Nat)}(h:∀T∈Ts,T=[])(p:Ts.Pairwise Ap):W f j Ts≤f j:=by
 rcases Ts with _ |⟨A,_ |⟨B,Ts⟩⟩
 ·exact pT _
 ·rw[h A (by simp)];simp[W]
 ·exact absurd (by rw[h A (by simp),h B (by simp)];simp) ((List.pairwise_cons.mp p).1 B (by simp))
theorem MT.out{x:Nat}(h:MT L T)(k:x∉T):MT (L.map (wo x)) T:=by
 refine⟨h.1,fun S hS=>?_,fun y hy=>?_⟩
 ·obtain⟨R,hR,rfl⟩:=Zay.mp hS
  obtain⟨y,a,b⟩:=h.2.1 R hR
  exact⟨y,wo_mem.mpr ⟨a,fun z=>k (z▸b)⟩,b⟩
 ·obtain⟨S,hS,a,b⟩:=h.2.2 y hy
  exact⟨wo x S,List.mem_map_of_mem hS,wo_mem.mpr ⟨a,fun z=>k (z▸hy)⟩,fun z hz=>b z (wo_mem.mp hz).1⟩
theorem MT.into{x:Nat}(h:MT L T)(k:x∈T):MT (Ds x L) (wo x T):=by
 refine⟨h.1.filter _,fun S hS=>?_,fun y hy=>?_⟩
 ·have q:=Zas.mp hS
  obtain⟨y,a,b⟩:=h.2.1 S q.1
  exact⟨y,a,wo_mem.mpr ⟨b,fun z=>zz5 q.2 (z▸a)⟩⟩
 ·obtain⟨yT,yx⟩:=wo_mem.mp hy
  obtain⟨S,hS,a,b⟩:=h.2.2 y yT
  exact⟨S,Zas.mpr ⟨hS,zz4 fun z=>yx (b x z k).symm⟩,a,fun z hz q=>b z hz (wo_mem.mp q).1⟩
theorem vV(x:Nat):∀L:List (List Nat),L.flatten.length=(L.map (wo x)).flatten.length+L.flatten.count x
 |[]=>rfl
 |S::L=>by
  have:=vV x L
  have:=oD x S
  simp only[List.flatten_cons,eR,iK,List.count_append]
  omega
theorem vW(x k:Nat):∀L:List (List Nat),(∀S∈L,S.Nodup∧k≤S.length)→(Ds x L).flatten.length+k*L.flatten.count x≤L.flatten.length
 |[],_=>gR _
 |S::L,h=>by
  have ih:=vW x k L fun T hT=>h T (gN _ hT)
  obtain⟨n,l⟩:=h S (g_ ..)
  have c:=n.count (a:=x)
  unfold Ds at *
  simp only[List.flatten_cons,iK,List.count_append,Nat.mul_add]
  by_cases q:x∈S
  ·rw[if_pos q]at c
   simp only[q,wm,not_true_eq_false,c,gv]
   omega
  ·rw[if_neg q]at c
   simp only[q,wm,not_false_eq_true,c,List.flatten_cons,iK,gv]
   omega
theorem xO{x N:Nat}(h:U.length≤N+1)(k:x∈U):(wo x U).length≤N:=by
 have:=oD x U
 have:=List.count_pos_iff.mpr k
 omega
theorem Gz(f:Nat→Nat):∀(N j m:Nat) (U:List Nat) (L Ts:List (List Nat)),U.length≤N→(∀S∈L,S.Nodup∧∀x∈S,x∈U)→L.flatten.length≤m→(∀T∈Ts,MT L T)→Ts.Pairwise Ap→W f j Ts≤G f N j m:=by
 intro N
 induction N with
 |zero=>
  intro j m U L Ts hU hL _ hT p
  have:U=[]:=List.length_eq_zero_iff.mp (by omega)
  subst this
  refine Bi f j (fun T h=>List.eq_nil_iff_forall_not_mem.mpr fun y hy=>?_) p
  obtain⟨S,hS,a,_⟩:=(hT T h).2.2 y hy
  cases(hL S hS).2 y a
 |succ N ih=>
  intro j m U L Ts hU hL hm hT p
  have pin:∀x,((on x Ts).map (wo x)).Pairwise Ap:=fun x=>List.pairwise_map.mpr ((p.filter _).imp_of_mem fun {A B} hA hB h q=>h fun y=>by
   by_cases e:y=x
   ·subst e
    exact⟨fun _=>zz5 (Zas.mp hB).2,fun _=>zz5 (Zas.mp hA).2⟩
   ·exact⟨fun hy=>(wo_mem.mp ((q y).mp (wo_mem.mpr ⟨hy,e⟩))).1,fun hy=>(wo_mem.mp ((q y).mpr (wo_mem.mpr ⟨hy,e⟩))).1⟩)
  have inn:∀x t,x∈U→(Ds x L).flatten.length≤t→W f (j+1) ((on x Ts).map (wo x))≤G f N (j+1) t:=fun x t xU ht=>
   ih (j+1) t (wo x U) (Ds x L) _ (xO hU xU) (fun S hS=>by
    have q:=Zas.mp hS
    exact⟨(hL S q.1).1,fun y hy=>wo_mem.mpr ⟨(hL S q.1).2 y hy,fun z=>zz5 q.2 (z▸hy)⟩⟩) ht (fun T h=>by
    obtain⟨R,hR,rfl⟩:=Zay.mp h
    have q:=Zas.mp hR
    exact(hT R q.1).into (zz5 q.2)) (pin x)
  have out:∀x t,x∈U→(L.map (wo x)).flatten.length≤t→W f j (Ds x Ts)≤G f N j t:=fun x t xU ht=>
   ih j t (wo x U) (L.map (wo x)) _ (xO hU xU) (fun S hS=>by
    obtain⟨R,hR,rfl⟩:=Zay.mp hS
    exact⟨(hL R hR).1.filter _,fun y hy=>wo_mem.mpr ⟨(hL R hR).2 y (wo_mem.mp hy).1,(wo_mem.mp hy).2⟩⟩) ht (fun T h=>by
    have q:=Zas.mp h
    exact(hT T q.1).out (zz5 q.2)) (p.filter _)
  have nd:∀T∈Ts,T.Nodup:=fun T h=>(hT T h).1
  have fU:∀x∈L.flatten,x∈U:=fun x h=>by
   obtain⟨S,hS,a⟩:=List.mem_flatten.mp h
   exact(hL S hS).2 x a
  unfold G
  by_cases e0:L=[]
  ·subst e0
   refine jS (Bi f j (fun T h=>List.eq_nil_iff_forall_not_mem.mpr fun y hy=>?_) p) (Nat.le_max_left _ _)
   obtain⟨S,hS,_⟩:=(hT T h).2.2 y hy
   cases hS
  by_cases e1:[]∈L
  ·have:Ts=[]:=List.eq_nil_iff_forall_not_mem.mpr fun T h=>by
    obtain⟨x,a,_⟩:=(hT T h).2.1 [] e1
    cases a
   subst this
   exact pT _
  by_cases e2:∃x,[x]∈L
  ·obtain⟨x,hx⟩:=e2
   have xf:x∈L.flatten:=List.mem_flatten.mpr ⟨[x],hx,by simp⟩
   have t:=vW x 1 L fun S hS=>⟨(hL S hS).1,Nat.pos_of_ne_zero fun z=>e1 (List.length_eq_zero_iff.mp z▸hS)⟩
   have c:=List.count_pos_iff.mpr xf
   have o:Ds x Ts=[]:=List.filter_eq_nil_iff.mpr fun T h=>by
    obtain⟨y,a,b⟩:=(hT T h).2.1 [x] hx
    rw[Zaf.mp a]at b
    simp[b]
   have:=inn x (m - 1) (fU x xf) (by omega)
   rw[split f j x Ts nd,o,show W f j []=0 from rfl,Nat.zero_add,if_pos (show 1≤m by omega)]
   omega
  have two:∀S∈L,S.Nodup∧2≤S.length:=fun S hS=>⟨(hL S hS).1,by
   rcases S with _ |⟨a,_ |⟨b,S⟩⟩
   ·exact absurd hS e1
   ·exact absurd ⟨a,hS⟩ e2
   ·simp⟩
  by_cases e3:∃x,2≤L.flatten.count x
  ·obtain⟨x,c⟩:=e3
   have xU:=fU x (List.count_pos_iff.mp (by omega))
   have t1:=vW x 2 L two
   have t2:=vV x L
   have:=inn x (m - 4) xU (by omega)
   have:=out x (m - 2) xU (by omega)
   rw[split f j x Ts nd,if_pos (show 4≤m by omega)]
   omega
  ·have fn:L.flatten.Nodup:=List.nodup_iff_count.mpr fun a=>by
    have z:=fun z=>e3 ⟨a,z⟩
    exact Nat.le_of_not_lt z
   have fl:=fn.length_le_of_subset fU
   obtain⟨S,hS⟩:=List.exists_mem_of_ne_nil L e0
   obtain⟨x,hx⟩:=List.exists_mem_of_ne_nil S fun z=>e1 (z▸hS)
   have xf:x∈L.flatten:=List.mem_flatten.mpr ⟨S,hS,hx⟩
   have c:=List.count_pos_iff.mpr xf
   have t1:=vW x 2 L two
   have t2:=vV x L
   have:=inn x (min m (N+1) - 2) (fU x xf) (by omega)
   have:=out x (min m (N+1) - 1) (fU x xf) (by omega)
   rw[split f j x Ts nd,if_pos (show 2≤min m (N+1) by omega)]
   omega
end NhTr
namespace Nhk54
open PySem L2 Nh PL
def nu:List (Str×Bool):=[("NoRule",false)]
def lI:List (Str×Bool):=[("NoRule",false)]
def nv:List (Str×Bool):=[("NoRule",true)]
def nw:List (Str×Bool):=[("NoRule",false)]
def ny:List (Str×Bool):=[("NoRule",false)]
def nz:List (Str×Bool):=[("NoRule",false)]
def nC:List (Str×Bool):=[("NoRule",false)]
def kA:List (Str×Bool):=[("NoRule",false)]
def lJ:List (Str×Bool):=[("NoRule",false)]
def lM:List (Str×Bool):=[("NoRule",false)]
def jh:List (Str×Bool):=[("NoRule",true)]
def ml:bX:=(aZ (rE (mF (vq .str) (ae 0)) (rE (ag iM false (bD fB (af false (ae 0) ao)) (pC (.int 1))) (m8 (fk .le) (fk .le) false false (pC (.str "a")) (ae 0) (pC (.str "z"))))))
def ji:List PyData→Option Sl:=fi 1 1 ml
def bi:gi:=(p9 2 (gU (aK 2) (gU (aK 3) p7)))
def bj:bX:=(aC (aE 4 (ae 3))
 (aC (bS (D0 (ir (ae 1)) (dW (ag iM false (ag mG false (ag mG false (ae 1) (mF B7 (pC (.int 1)))) (pC (.int 0))) (ae 2))))
 (aE 4 (ag aQ false (ag mG false (GM 1) (pC (.int 1))) (ae 3)))
 aV)
 (bS (dW (ag u9 false (ae 4) (pC (.int 0))))
 (fN (eG 1 (tD (aO (ae 2) (aO (ae 4) bE)))))
 aV)))
def iT:bX:=(aC (aE 1 (cb bE))
 (aC (dC (a8 (ae 0)) bi
 bj)
 (aZ (ae 1))))
def fW:List PyData→Option Sl:=fi 1 5 iT
def mn:bX:=(aZ (ag iM false (bD fB (af false (ak fW (af false (ae 0) ao)) ao)) (pC (.int 0))))
def gj:List PyData→Option Sl:=fi 1 1 mn
def oE:bX:=(aZ (ag aQ false (ae 0) (ae 1)))
def i6:List PyData→Option Sl:=fi 2 2 oE
def h9:gi:=(p9 2 (gU (aK 0) (gU (aK 1) p7)))
def fX:aY:=(tD (aO (ae 0) (aO (mF B7 (ae 1)) bE)))
def kB:bX:=(aZ (aS [none,none] (wL (ae 0)) h9 a9 fX))
def gq:List PyData→Option Sl:=fi 1 1 kB
def fF:bX:=(aZ (ag aQ false (ag aQ false (ag aQ false (ae 0) (ae 1)) (ak gq (af false (ae 0) ao))) (ak gq (af false (ae 1) ao))))
def cy:List PyData→Option Sl:=fi 2 2 fF
def iw:gi:=(aK 1)
def iy:bX:=(bS (iN (ir (ak ji (af false (ae 1) ao))))
 iF
 aV)
def oF:bX:=(aC (bS (iN (ir (mF (vq .str) (ae 0))))
 iF
 aV)
 (aC (dC (a8 (ae 0)) iw
 iy)
 (aZ (d4 "" (b7 (ae 0))))))
def eT:List PyData→Option Sl:=fi 1 2 oF
def ie:gi:=(p9 2 (gU (aK 0) (gU (aK 1) p7)))
def ig:aY:=(ae 0)
def kC:bX:=(aZ (d4 "" (b7 (aS [none,none] (a8 (ae 0)) ie a9 ig))))
def fq:List PyData→Option Sl:=fi 1 1 kC
def iU:gi:=(aK 0)
def iV:aY:=(ae 0)
def fG:lq:=(dW (ag (F7 true) false (ag mG false (ae 0) (pC (.int 0))) (ae 1)))
def mq:bX:=(aC (aE 2 (ak eT (af false (ae 1) ao)))
 (aZ (aS [none,some 2] (a8 (ae 0)) iU fG iV)))
def jj:List PyData→Option Sl:=fi 2 3 mq
def gc:bX:=(aZ (ak gj (af false (ak jj (af false (ae 0) (af false (ae 1) ao))) ao)))
def cO:List PyData→Option Sl:=fi 2 2 gc
def gB:gi:=(aK 3)
def gC:bX:=(aC (bS (dW (ag (F7 false) false (ae 3) (ae 0)))
 (aE 1 (ag aQ false (ae 1) (ae 2)))
 aV)
 (aE 2 (ag ip false (ae 2) (pC (.int 2)))))
def mr:bX:=(aC (aE 1 (pC (.int 0)))
 (aC (aE 2 (pC (.int 1)))
 (aC (dC (a8 (pC (.str "abcdefghijklmnopqrstuvwxyz"))) gB
 gC)
 (aZ (ae 1)))))
def cS:List PyData→Option Sl:=fi 1 4 mr
def gd:bX:=(aZ (vT (ae 0)))
def bF:List PyData→Option Sl:=fi 1 1 gd
def bR:gi:=(aK 2)
def bq:bX:=(bS (dW (ag iM false (ag wM false (ae 2) (ae 0)) (ae 2)))
 (aZ (pC (.bool true)))
 aV)
def d7:bX:=(aC (dC (a8 (ae 1)) bR
 bq)
 (aZ (pC (.bool false))))
def ba:List PyData→Option Sl:=fi 2 3 d7
def dg:gi:=(aK 2)
def cH:bX:=(bS (dW (ag iM false (ag wM false (ae 2) (ae 0)) (pC (.int 0))))
 (aZ (pC (.bool false)))
 aV)
def gD:bX:=(aC (dC (a8 (ae 1)) dg
 cH)
 (aZ (pC (.bool true))))
def dP:List PyData→Option Sl:=fi 2 3 gD
def dQ:gi:=(aK 3)
def cK:bX:=(aC (aE 4 (ak cS (af false (ae 3) ao)))
 (bS (iN (ir (ak ba (af false (ae 4) (af false (ae 2) ao)))))
 (aC (fN (eG 2 (ae 4)))
 (fN (eG 1 (ae 3))))
 aV))
def jk:bX:=(aC (aE 1 (cb bE))
 (aC (aE 2 (cb bE))
 (aC (dC (a8 (ak bF (af false (ae 0) ao))) dQ
 cK)
 (aZ (ae 1)))))
def cL:List PyData→Option Sl:=fi 1 5 jk
def ii:gi:=(aK 0)
def fY:aY:=(ag aQ false (ae 0) (ae 1))
def dR:gi:=(aK 2)
def dS:bX:=(aE 1 (ag aQ false (ae 1) (aS [none,some 2] (a8 (ae 1)) ii a9 fY)))
def gk:bX:=(aC (aE 1 (cb (aO (pC (.str "")) bE)))
 (aC (dC (a8 (ae 0)) dR
 dS)
 (aZ (ae 1))))
def bG:List PyData→Option Sl:=fi 1 3 gk
def iW:bX:=(bS (dW (ag (hJ (fk .gt)) false (bD fB (af false (ae 0) ao)) (pC (.int 10))))
 iF
 aV)
def cM:List PyData→Option Sl:=fi 1 1 iW
def ij:bX:=(aZ (ak eT (af false (d4 "" (ae 0)) ao)))
def cU:List PyData→Option Sl:=fi 1 1 ij
def dh:gi:=(aK 0)
def di:aY:=(ak eT (af false (ae 0) ao))
def iX:bX:=(aZ (ak cL (af false (aS [none] (a8 (ae 0)) dh a9 di) ao)))
def bA:List PyData→Option Sl:=fi 1 1 iX
def cA:gi:=(aK 0)
def cB:aY:=(ak cS (af false (ae 0) ao))
def cC:gi:=(aK 0)
def cD:aY:=(ae 0)
def bP:lq:=(ir (ak dP (af false (ak cS (af false (ae 0) ao)) (af false (ae 1) ao))))
def ft:bX:=(aC (aE 1 (aS [none] (a8 (ak bA (af false (ae 0) ao))) cA a9 cB))
 (aC (aE 2 (ak cU (af false (ae 0) ao)))
 (aC (fN (ak cM (af false (ae 2) ao)))
 (aZ (ak cL (af false (aS [none,some 1] (a8 (ak bG (af false (ae 2) ao))) cC bP cD) ao))))))
def aU:List PyData→Option Sl:=fi 1 3 ft
def dG:gi:=(aK 0)
def dH:aY:=(ae 0)
def cE:lq:=(ir (ak cO (af false (ae 1) (af false (ae 0) ao))))
def fu:bX:=(aC (aE 1 (ak fq (af false (ae 0) ao)))
 (aC (fN (ak cM (af false (ae 1) ao)))
 (aZ (ak cL (af false (aS [none,some 0] (a8 (ak bG (af false (ae 1) ao))) dG cE dH) ao)))))
def cI:List PyData→Option Sl:=fi 1 2 fu
def cV:bX:=(aZ (ak bA (af false (ae 0) ao)))
def bu:List PyData→Option Sl:=fi 1 1 cV
def gE:bX:=(aC (bS (qD (iN (ir (mF (vq .list) (ae 0)))) (dW (ag iM false (bD fB (af false (ae 0) ao)) (pC (.int 0)))))
 iF
 aV)
 (aC (bS (dW (ag u9 false (ak bu (af false (ae 0) ao)) (ae 0)))
 iF
 aV)
 (bS (dW (ag iM false (ag mG false (ae 0) (pC (.int 0))) (pC (.str ""))))
 iF
 aV)))
def eU:List PyData→Option Sl:=fi 1 1 gE
def iY:bX:=(aZ (ag cR false (ag aQ false (ae 0) (pC (.int 1))) (pC (.int 2))))
def cN:List PyData→Option Sl:=fi 1 1 iY
def cg(self:List PyData→Option Sl):bX:=(aC (bS (dW (ag iM false (bD fB (af false (ae 0) ao)) (pC (.int 1))))
 (aZ (cb (aO (tD (aO (ae 0) (aO (pC (.int 1)) bE))) bE)))
 aV)
 (aC (aE 1 (ak cN (af false (bD fB (af false (ae 0) ao)) ao)))
 (aZ (ak cy (af false (ak self (af false (fP false (ae 0) eB (bJ (ae 1))) ao)) (af false (ak self (af false (fP false (ae 0) (bJ (ae 1)) eB) ao)) ao))))))
def cP:Nat→List PyData→Option Sl
 | 0=>fun _=>none
 |k+1=>fi 1 2 (cg (cP k))
def eP:List PyData→Option Sl:=cP 8
def ck(self:List PyData→Option Sl):bX:=(aC (bS (dW (ag iM false (ae 0) (pC (.int 1))))
 (aZ (pC (.int 1)))
 aV)
 (aC (aE 1 (ak cN (af false (ae 0) ao)))
 (aZ (ag ip false (pC (.int 2)) (ag aQ false (ak self (af false (ae 1) ao)) (ak self (af false (ag qB false (ae 0) (ae 1)) ao)))))))
def cQ:Nat→List PyData→Option Sl
 | 0=>fun _=>none
 |k+1=>fi 1 2 (ck (cQ k))
def k8:List PyData→Option Sl:=cQ 8
def gl:gi:=(aK 0)
def eJ:aY:=(ak k8 (af false (bD fB (af false (ae 0) ao)) ao))
def eQ:bX:=(aC (fN (ak eU (af false (ae 0) ao)))
 (aZ (bD rQ (af false (aS [none] (a8 (ak aU (af false (ae 0) ao))) gl a9 eJ) ao))))
def bH:List PyData→Option Sl:=fi 1 1 eQ
def gG:gi:=(aK 2)
def fH:bX:=(aE 1 (ak i6 (af false (ae 1) (af false (ak eP (af false (ae 2) ao)) ao))))
def j_:bX:=(aC (bS (dW (ag (hJ (fk .gt)) false (ak bH (af false (ae 0) ao)) (pC (.int 800))))
 iF
 aV)
 (aC (aE 1 (cb bE))
 (aC (dC (a8 (ak aU (af false (ae 0) ao))) gG
 fH)
 (aZ (ae 1)))))
def eK:List PyData→Option Sl:=fi 1 3 j_
def ms:bX:=(aC (bS (ir (ak gj (af false (ae 0) ao)))
 iF
 aV)
 (aZ (ak cI (af false (ae 0) ao))))
def jl:List PyData→Option Sl:=fi 1 1 ms
def ka:Dr:=(Ll (ir (ak gj (af false (ae 0) ao))) (AZ "NoRule"))
def eL:List PyData→Option Str:=Ko 1 1 ka
def oG:bX:=(aC (bS (dW (ag (hJ (fk .lt)) false (ae 1) (bD fB (af false (ae 0) ao))))
 (aZ (ag mG false (ae 0) (ae 1)))
 aV)
 (aZ (pC (.int 0))))
def aR:List PyData→Option Sl:=fi 2 2 oG
def mz:bX:=(aC (aE 2 (ag ef false (ag aQ false (ag aQ false (ag ip false (ag ef false (ae 0) (ag qC false (pC (.int 10)) (pC (.int 40)))) (ag aQ false (pC (.int 62089911)) (ag ip false (pC (.int 2)) (ae 1)))) (ag ip false (pC (.int 982451653)) (ae 1))) (pC (.int 17))) (pC (.int 4294967291))))
 (aZ (ag ef false (ag ip false (ae 2) (ag aQ false (ag aQ false (ag cR false (ae 2) (pC (.int 1024))) (ag ip false (pC (.int 2)) (ae 1))) (pC (.int 1)))) (pC (.int 4294967279)))))
def b_:List PyData→Option Sl:=fi 2 3 mz
def fe:gi:=(p9 2 (gU (aK 0) (gU (aK 1) p7)))
def dI:aY:=(tD (aO (ae 0) (aO (ag qB false (pC (.int 0)) (ae 1)) bE)))
def gH:bX:=(aZ (aS [none,none] (wL (ae 0)) fe a9 dI))
def bU:List PyData→Option Sl:=fi 1 1 gH
def bV:gi:=(aK 5)
def bW:bX:=(aC (aE 6 (ae 1))
 (aC (bS (qD (dW (ag (hJ (fk .lt)) false (bD vp (af false (ae 0) ao)) (ag qC false (pC (.int 10)) (pC (.int 18))))) (dW (m8 (fk .lt) (fk .lt) false false (mF B7 (pC (.int 28))) (ae 1) (pC (.int 28)))))
 (aE 6 (ak b_ (af false (ae 0) (af false (ae 5) ao))))
 aV)
 (aC (fN (eG 4 (tD (aO (ag mG false (pC (.str "abcz")) (ag ef false (ae 6) (pC (.int 4)))) (aO (ag qB false (ag ef false (ag cR false (ae 6) (pC (.int 4))) (pC (.int 7))) (pC (.int 3))) bE)))))
 (aE 1 (ag cR false (ae 1) (pC (.int 28)))))))
def gI:bX:=(aC (aE 1 (ag cR false (ae 0) (pC (.int 5))))
 (aC (bS (dW (ag iM false (ag ef false (ae 0) (pC (.int 5))) (pC (.int 2))))
 (aC (aE 2 (ag mG false (pC (.str "abcdefghijklmnopqrstuvwxyz")) (ag ef false (ae 1) (pC (.int 26)))))
 (aZ (cb (aO (tD (aO (ae 2) (aO (ag qB false (ag ef false (ag cR false (ae 1) (pC (.int 26))) (ag qB false (ag ip false (pC (.int 2)) (ag qC false (pC (.int 10)) (pC (.int 30)))) (pC (.int 1)))) (ag qB false (ag qC false (pC (.int 10)) (pC (.int 30))) (pC (.int 1)))) bE))) bE))))
 aV)
 (aC (aE 3 (ag ef false (ae 1) (pC (.int 13))))
 (aC (aE 1 (ag cR false (ae 1) (pC (.int 13))))
 (aC (aE 4 (cb bE))
 (aC (dC (ja (af false (ae 3) ao)) bV
 bW)
 (aZ (ae 4))))))))
def cc:List PyData→Option Sl:=fi 1 7 gI
def bK:gi:=(aK 5)
def bL:bX:=(aC (aE 6 (ag ef false (ag cR false (ae 5) (pC (.int 5))) (ag aQ false (bD fB (af false (ae 4) ao)) (pC (.int 1)))))
 (aC (bS (dW (ag iM false (ag ef false (ae 5) (pC (.int 5))) (pC (.int 3))))
 (aE 4 (ag aQ false (ae 4) (ak bU (af false (fP false (ae 4) (bJ (ae 6)) eB) ao))))
 (bS (dW (ag iM false (ag ef false (ae 5) (pC (.int 5))) (pC (.int 4))))
 (aC (aE 7 (ak cc (af false (ag cR false (ae 5) (pC (.int 5))) ao)))
 (aC (aE 7 (ag aQ false (ae 7) (ak bU (af false (ae 7) ao))))
 (aE 4 (ag aQ false (ag aQ false (fP false (ae 4) eB (bJ (ae 6))) (ae 7)) (fP false (ae 4) (bJ (ae 6)) eB)))))
 (aE 4 (ag aQ false (ae 4) (ak cc (af false (ae 5) ao))))))
 (aE 4 (fP false (ae 4) eB (bJ (ae 3))))))
def kD:bX:=(aC (aE 4 (cb bE))
 (aC (dC (a8 (ag aQ false (cb (aO (ak aR (af false (ae 0) (af false (ae 1) ao))) bE)) (fP false (ae 0) (bJ (ag aQ false (ae 1) (pC (.int 1)))) (bJ (ae 2))))) bK
 bL)
 (aZ (ae 4))))
def fv:List PyData→Option Sl:=fi 4 8 kD
def bB:gi:=(p9 2 (gU (aK 2) (gU (aK 3) p7)))
def bM:bX:=(aC (bS (D0 (dW (ag u9 false (ae 1) (cb bE))) (dW (ag iM false (ag mG false (ag mG false (ae 1) (mF B7 (pC (.int 1)))) (pC (.int 0))) (ae 2))))
 (aE 3 (ag aQ true (ae 3) (ag mG false (GM 1) (pC (.int 1)))))
 aV)
 (bS (dW (ag u9 false (ae 3) (pC (.int 0))))
 (fN (eG 1 (tD (aO (ae 2) (aO (ae 3) bE)))))
 aV))
def il:gi:=(aK 0)
def io:aY:=(ae 0)
def kE:bX:=(aC (aE 1 (cb bE))
 (aC (dC (wL (ae 0)) bB
 bM)
 (aZ (aS [none] (wL (ae 1)) il a9 io))))
def cm:List PyData→Option Sl:=fi 1 4 kE
def kF:bX:=(aC (aE 1 (cb (aO (mF (lE nu) (ae 0)) (aO (mF (lE lI) (ae 0)) (aO (mF (lE nv) (ae 0)) (aO (mF (lE nw) (ae 0)) bE))))))
 (aC (aE 1 (ag aQ false (ae 1) (cb (aO (mF (lE ny) (ae 0)) (aO (mF (lE nz) (ae 0)) (aO (mF (lE nC) (ae 0)) bE))))))
 (aC (aE 1 (ag aQ false (ae 1) (cb (aO (mF (lE kA) (ae 0)) (aO (mF (lE lJ) (ae 0)) (aO (mF (lE lM) (ae 0)) bE))))))
 (aC (bS (qD (iN (ir (mF (lE jh) (ae 0)))) (dW (ag u9 false (qT 1) (pC (.int 1)))))
 (aZ (pC (.str "other")))
 aV)
 (aC (aE 2 (cb (aO (pC (.str "cord")) (aO (pC (.str "nails")) (aO (pC (.str "rule")) (aO (pC (.str "text")) (aO (pC (.str "move")) (aO (pC (.str "line")) (aO (pC (.str "name")) (aO (pC (.str "number")) (aO (pC (.str "many")) (aO (pC (.str "long")) bE))))))))))))
 (aZ (ag mG false (ae 2) (qU 1))))))))
def iz:List PyData→Option Sl:=fi 1 3 kF
def mJ:gi:=(aK 0)
def mK:aY:=(ag aQ false (ae 0) (ae 1))
def mL:gi:=(aK 2)
def mM:bX:=(aE 1 (ag aQ false (ae 1) (aS [none,some 2] (a8 (ae 1)) mJ a9 mK)))
def nD:bX:=(aC (aE 1 (cb (aO (pC (.str "")) bE)))
 (aC (dC (a8 (ae 0)) mL
 mM)
 (aZ (ae 1))))
def gr:List PyData→Option Sl:=fi 1 3 nD
def dJ:gi:=(aK 0)
def cF:aY:=(ag (F7 false) false (ae 0) (ae 1))
def bw:gi:=(aK 2)
def be:bX:=(bS (ir (bD GS (af false (aS [none,some 0] (a8 (ae 2)) dJ a9 cF) ao)))
 (aZ (pC (.bool true)))
 aV)
def fw:bX:=(aC (dC (a8 (ae 1)) bw
 be)
 (aZ (pC (.bool false))))
def cJ:List PyData→Option Sl:=fi 2 3 fw
def cW:gi:=(aK 0)
def cX:aY:=(ae 0)
def cY:lq:=(dW (ag iM false (bD fB (af false (ae 0) ao)) (ae 1)))
def d8:gi:=(aK 3)
def cZ:bX:=(bS (iN (ir (ak cJ (af false (ae 3) (af false (ae 1) ao)))))
 (fN (eG 1 (ae 3)))
 aV)
def d9:gi:=(aK 2)
def d_:bX:=(dC (a8 (lG (aS [none,some 2] (a8 (ae 0)) cW cY cX))) d8
 cZ)
def iA:bX:=(aC (aE 1 (cb bE))
 (aC (dC (vv (af false (pC (.int 0)) (af false (pC (.int 27)) ao))) d9
 d_)
 (aZ (ae 1))))
def bQ:List PyData→Option Sl:=fi 1 4 iA
def fZ:gi:=(aK 0)
def eW:aY:=(ag mG false (ae 1) (ae 0))
def eX:lq:=(dW (ag iM false (ag wM false (ag Eh false (ae 2) (ae 0)) (pC (.int 1))) (pC (.int 1))))
def f8:gi:=(aK 5)
def f9:bX:=(aC (aE 6 (ag Eh false (ag cR false (ae 4) (pC (.int 3))) (ag ip false (pC (.int 6)) (ae 5))))
 (aC (bS (dW (ag (hJ (fk .lt)) false (bD vp (af false (ae 4) ao)) (ag qC false (pC (.int 10)) (pC (.int 18)))))
 (aE 6 (ak b_ (af false (ae 4) (af false (ag aQ false (pC (.int 30)) (ae 5)) ao))))
 aV)
 (aC (aE 7 (d4 "" (aS [none,some 2,some 6] (ja (af false (bD fB (af false (ae 2) ao)) ao)) fZ eX eW)))
 (bS (dW (ag u9 false (ae 7) (pC (.str ""))))
 (fN (eG 3 (ae 7)))
 aV))))
def f_:gi:=(aK 4)
def dU:bX:=(dC (ja (af false (ag aQ false (pC (.int 1)) (ag ef false (ae 4) (pC (.int 3)))) ao)) f8
 f9)
def jm:bX:=(aC (aE 3 (cb bE))
 (aC (dC (a8 (ag aQ false (cb (aO (ak aR (af false (ae 0) (af false (ae 1) ao))) bE)) (fP false (ae 0) (bJ (ag aQ false (ae 1) (pC (.int 1)))) (bJ (ag aQ false (ae 1) (pC (.int 8))))))) f_
 dU)
 (aZ (ak bQ (af false (ag aQ false (ae 3) (cb (aO (ae 2) bE))) ao)))))
def gu:List PyData→Option Sl:=fi 3 8 jm
def jn:bX:=(aC (aE 1 (cb bE))
 (aC (EF ["NoRule"] 2 (r_ eL (af false (ae 0) ao)) (aE 1 (ak jl (af false (ae 0) ao))) (aZ (ak iz (af false (ae 2) ao))))
 (aZ (ae 1))))
def cq:List PyData→Option Sl:=fi 1 3 jn
def fI:gi:=(p9 2 (gU (aK 4) (gU (aK 5) p7)))
def fJ:bX:=(fN (eG 3 (tD (aO (ag mG false (ae 1) (ag ef false (zZ 2 (ae 4)) (bD fB (af false (ae 1) ao)))) (aO (ae 5) bE)))))
def kb:bX:=(aC (aE 2 (pC (.str "abcdefghijklmnopqrstuvwxyz")))
 (aC (aE 3 (cb bE))
 (aC (dC (a8 (ae 0)) fI
 fJ)
 (aZ (ae 3)))))
def fz:List PyData→Option Sl:=fi 2 6 kb
def fK:gi:=(aK 0)
def eM:aY:=(ag mG false (ae 0) (pC (.int 0)))
def fL:gi:=(aK 0)
def fM:aY:=(ae 0)
def dL:lq:=(dW (ag (F7 true) false (ag mG false (ae 0) (pC (.int 0))) (ae 1)))
def gJ:gi:=(aK 3)
def gK:bX:=(bS (dW (ag iM false (ak cm (af false (aS [none,some 3] (a8 (ae 0)) fL dL fM) ao)) (cb bE)))
 (fN (eG 2 (ae 3)))
 aV)
def ke:bX:=(aC (aE 1 (b7 (aS [none] (a8 (ae 0)) fK a9 eM)))
 (aC (aE 2 (cb bE))
 (aC (dC (a8 (ak gr (af false (ae 1) ao))) gJ
 gK)
 (aZ (ak bQ (af false (ae 2) ao))))))
def gm:List PyData→Option Sl:=fi 1 4 ke
def iZ:gi:=(aK 0)
def gL:aY:=(ag mG false (ae 1) (ag ef false (ag aQ false (ae 2) (ag ip false (pC (.int 3)) (ae 0))) (pC (.int 26))))
def eN:gi:=(aK 5)
def dM:bX:=(aC (aE 6 (ak b_ (af false (ae 0) (af false (ag aQ false (pC (.int 50)) (ae 5)) ao))))
 (aC (aE 7 (fP false (ae 3) (bJ (ag ip false (ae 5) (ae 1))) (bJ (ag aQ false (ag aQ false (ag ip false (ae 5) (ae 1)) (pC (.int 1))) (ag ef false (ae 6) (ae 1))))))
 (aC (bS (dW (ag iM false (ag ef false (ag cR false (ae 6) (pC (.int 11))) (pC (.int 2))) (pC (.int 1))))
 (aE 7 (ag aQ false (fP false (ae 7) (bJ (pC (.int 1))) eB) (cb (aO (ag mG false (ae 3) (ag ef false (ag cR false (ae 6) (pC (.int 22))) (bD fB (af false (ae 3) ao)))) bE))))
 aV)
 (fN (eG 4 (d4 "" (b7 (ae 7))))))))
def kf:bX:=(aC (aE 2 (pC (.str "abcdefghijklmnopqrstuvwxyz")))
 (aC (aE 3 (aS [none,some 2,some 0] (ja (af false (ag ip false (pC (.int 2)) (ae 1)) ao)) iZ a9 gL))
 (aC (aE 4 (cb bE))
 (aC (dC (ja (af false (pC (.int 2)) ao)) eN
 dM)
 (aZ (ak bQ (af false (ae 4) ao)))))))
def gZ:List PyData→Option Sl:=fi 2 8 kf
def jr:gi:=(aK 0)
def jt:aY:=(bD fB (af false (ae 0) ao))
def xP:bX:=(aC (aE 1 (ag mG false (cb (aO (pC (.str "bdmxy")) (aO (pC (.str "bdfhkmxy")) bE))) (bD vB (af false (ag iM false (ag ef false (ag cR false (ak aR (af false (ae 0) (af false (pC (.int 0)) ao))) (pC (.int 3))) (pC (.int 8))) (pC (.int 5))) ao))))
 (aC (aE 2 (ak fz (af false (ak fv (af false (ae 0) (af false (pC (.int 1)) (af false (pC (.int 63)) (af false (pC (.int 40)) ao))))) (af false (ae 1) ao))))
 (aC (bS (dW (ag iM false (ag ef false (ak aR (af false (ae 0) (af false (pC (.int 0)) ao))) (pC (.int 3))) (pC (.int 1))))
 (aC (aE 3 (ak gu (af false (ae 0) (af false (pC (.int 1)) (af false (fP false (pC (.str "bdmxy")) eB (bJ (ag aQ false (pC (.int 1)) (ag ef false (ag cR false (ak aR (af false (ae 0) (af false (pC (.int 0)) ao))) (pC (.int 24))) (pC (.int 5)))))) ao)))))
 (aC (bS (dW (ag (hJ (fk .gt)) false (bD fB (af false (ae 1) ao)) (pC (.int 5))))
 (aE 3 (ak gZ (af false (ak aR (af false (ae 0) (af false (pC (.int 1)) ao))) (af false (pC (.int 4)) ao))))
 aV)
 (aC (aE 2 (ak eK (af false (ae 3) ao)))
 (aC (aE 1 (d4 "" (b7 (d4 "" (ae 3)))))
 (aC (aE 4 (ak fz (af false (ak cc (af false (ak aR (af false (ae 0) (af false (pC (.int 9)) ao))) ao)) (af false (ae 1) ao))))
 (aC (aE 5 (ak bU (af false (ae 4) ao)))
 (aE 2 (ag aQ false (ag aQ false (ag aQ false (ag aQ false (ag aQ false (ae 4) (fP false (ae 2) eB (bJ (pC (.int 7))))) (ae 4)) (ae 5)) (fP false (ae 2) (bJ (pC (.int 7))) eB)) (ae 5)))))))))
 aV)
 (aC (aE 6 (rF (ae 2)))
 (aC (aE 7 (ak cq (af false (ae 6) ao)))
 (aC (bS (dW (ag iM false (ak cm (af false (ae 2) ao)) (cb bE)))
 (aZ (rE (ag iM false (ae 7) (pC (.str "rule"))) (ag iM false (ae 6) (ae 2))))
 aV)
 (aC (bS (qD (iN (ir (mF (vq .list) (ae 7)))) (qD (dW (ag u9 false (ae 7) (ak gm (af false (ae 2) ao)))) (dW (ag u9 false (ae 6) (ae 2)))))
 (aZ (pC (.bool false)))
 aV)
 (aC (bS (dW (ag (hJ (fk .gt)) false (bD rQ (af false (aS [none] (rK (ae 7)) jr a9 jt) ao)) (ag qB false (pC (.int 18)) (ag ip false (pC (.int 6)) (bD vB (af false (ag (hJ (fk .gt)) false (jJ (d4 "" (ae 7))) (pC (.int 5))) ao))))))
 (aZ (pC (.bool true)))
 aV)
 (aZ (ag iM false (ak cq (af false (ak eK (af false (ae 7) ao)) ao)) (ae 7)))))))))))
def nE:List PyData→Option Sl:=fi 1 8 xP
end Nhk54
namespace Nhk54
open PySem L2 Nh PL
def iR(i:Nat):Stmt:=PySem.Challenge.pw_nailhang_k54_rules_of_cords.main.body.getD i (.Pass ⟨0,0,0,0⟩)
structure XF (K:Frag) (mg:Str→Option Value):Prop where
 c_NoCord:∃C,mg "NoCord"=some (.ref C)∧XT K (.ref C) nu
 c_NoNails:∃C,mg "NoNails"=some (.ref C)∧XT K (.ref C) lI
 c_NoRule:∃C,mg "NoRule"=some (.ref C)∧XT K (.ref C) nv∧XC K mg "NoRule" C
 c_NoText:∃C,mg "NoText"=some (.ref C)∧XT K (.ref C) nw
 c_NoMove:∃C,mg "NoMove"=some (.ref C)∧XT K (.ref C) ny
 c_NoLine:∃C,mg "NoLine"=some (.ref C)∧XT K (.ref C) nz
 c_NoName:∃C,mg "NoName"=some (.ref C)∧XT K (.ref C) nC
 c_NoNumber:∃C,mg "NoNumber"=some (.ref C)∧XT K (.ref C) kA
 c_TooMany:∃C,mg "TooMany"=some (.ref C)∧XT K (.ref C) lJ
 c_TooLong:∃C,mg "TooLong"=some (.ref C)∧XT K (.ref C) lM
 v_ValueError:mg "ValueError"=none∧XT K (.type "ValueError") jh
 e_HangError:∃C,mg "HangError"=some (.ref C)∧∀n∈[("NoRule":Str)],∀D,nsIn K mainGlobals n=some (some (.ref D))→exmOne K (.ref D) (.ref C)=some true
abbrev pj:Stmt:=iR 13
abbrev kG:Stmt:=iR 14
abbrev pk:Stmt:=iR 15
abbrev su:Stmt:=iR 16
abbrev nG:Stmt:=iR 17
abbrev g5:Stmt:=iR 18
abbrev sx:Stmt:=iR 20
abbrev nH:Stmt:=iR 21
abbrev pq:Stmt:=iR 22
abbrev iG:Stmt:=iR 23
abbrev pv:Stmt:=iR 27
abbrev dm:Stmt:=iR 28
abbrev g6:Stmt:=iR 29
abbrev kH:Stmt:=iR 30
abbrev nI:Stmt:=iR 31
abbrev nJ:Stmt:=iR 32
abbrev kI:Stmt:=iR 33
abbrev jO:Stmt:=iR 34
abbrev kJ:Stmt:=iR 35
abbrev ju:Stmt:=iR 36
abbrev jv:Stmt:=iR 38
abbrev gn:Stmt:=iR 40
abbrev kK:Stmt:=iR 41
abbrev kM:Stmt:=iR 44
abbrev jw:Stmt:=iR 45
abbrev jx:Stmt:=iR 46
abbrev iH:Stmt:=iR 47
abbrev pA:Stmt:=iR 48
abbrev pB:Stmt:=iR 49
abbrev sy:Stmt:=iR 51
abbrev pD:Stmt:=iR 52
abbrev jy:Stmt:=iR 53
abbrev kN:Stmt:=iR 54
abbrev nK:Stmt:=iR 55
abbrev nM:Stmt:=iR 56
abbrev nN:Stmt:=iR 57
abbrev nO:Stmt:=iR 58
abbrev jz:Stmt:=iR 59
abbrev lN:Stmt:=iR 60
abbrev nP:Stmt:=iR 61
abbrev nQ:Stmt:=iR 62
abbrev pE:Stmt:=iR 63
abbrev pF:Stmt:=iR 64
abbrev pG:Stmt:=iR 65
abbrev sC:Stmt:=iR 66
structure Md (K:Frag) (mg:Str→Option Value):Prop where
 B:Bn mg
 e_is_nail:Def K mg "is_nail" pj ["thing"]
 e_short_form:Def K mg "short_form" kG ["cord"]
 e_is_fall:Def K mg "is_fall" pk ["cord"]
 e_joined:Def K mg "joined" su ["one","other"]
 e_contrary:Def K mg "contrary" nG ["cord"]
 e_there_and_back:Def K mg "there_and_back" g5 ["one","other"]
 e_set_of:Def K mg "set_of" sx ["nails"]
 e_nails_of:Def K mg "nails_of" nH ["cord"]
 e_without:Def K mg "without" pq ["cord","nails"]
 e_falls_without:Def K mg "falls_without" iG ["cord","nails"]
 e_bits_of:Def K mg "bits_of" pv ["nails"]
 e_in_told_order:∃c T,DefT K mg "in_told_order" dm ["sets"] c T
 e_has_part_among:Def K mg "has_part_among" g6 ["bits","parts"]
 e_meets_each:Def K mg "meets_each" kH ["bits","others"]
 e_least_of:Def K mg "least_of" nI ["sets"]
 e_all_sets:Def K mg "all_sets" nJ ["nails"]
 e_check_many:Def K mg "check_many" kI ["nails"]
 e_nails_among:Def K mg "nails_among" jO ["sets"]
 e_least_sets:Def K mg "least_sets" kJ ["family"]
 e_meeting_sets:Def K mg "meeting_sets" ju ["family"]
 e_falling_sets:Def K mg "falling_sets" jv ["cord"]
 e_least_or_no_rule:Def K mg "least_or_no_rule" gn ["sets"]
 e_check_rule:Def K mg "check_rule" kK ["thing"]
 e_first_half:Def K mg "first_half" kM ["number"]
 e_halves_round:Def K mg "halves_round" jw ["nails"]
 e_round_pieces:Def K mg "round_pieces" jx ["number"]
 e_pieces_needed:Def K mg "pieces_needed" iH ["rule"]
 e_cord_of:Def K mg "cord_of" pA ["rule"]
 e_rule_of:Def K mg "rule_of" pB ["cord"]
 e_law_at:Def K mg "_law_at" sy ["_law_script","_law_k"]
 e_law_mix:Def K mg "_law_mix" pD ["_law_cell","_law_k"]
 e_law_contrary:Def K mg "_law_contrary" jy ["_law_cord_here"]
 e_law_pieces:Def K mg "_law_pieces" kN ["_law_cell"]
 e_law_cord:Def K mg "_law_cord" nK ["_law_script","_law_first","_law_last","_law_most"]
 e_law_runs:Def K mg "_law_runs" nM ["_law_cord_here"]
 e_law_word:Def K mg "_law_word" nN ["_law_e"]
 e_law_sets:Def K mg "_law_sets" nO ["_law_nails"]
 e_law_has_part:Def K mg "_law_has_part" jz ["_law_one","_law_sets_here"]
 e_law_least:Def K mg "_law_least" lN ["_law_sets_here"]
 e_law_rule:Def K mg "_law_rule" nP ["_law_script","_law_first","_law_nails"]
 e_law_said:Def K mg "_law_said" nQ ["_law_cord_here"]
 e_law_few:Def K mg "_law_few" pE ["_law_cord_here","_law_names"]
 e_law_due:Def K mg "_law_due" pF ["_law_cord_here"]
 e_law_two:Def K mg "_law_two" pG ["_law_cell","_law_most"]
 G_LETTERS:∃t,mg "LETTERS"=some (.str "abcdefghijklmnopqrstuvwxyz" t)
 G_MOST_NAILS:∃t,mg "MOST_NAILS"=some (.int 10 t)
 G_MOST_PIECES:∃t,mg "MOST_PIECES"=some (.int 800 t)
 XX:XF K mg
section
variable {P:Program} {w:World} {K:Frag} {mg:Str→Option Value} {base:Heap}
theorem xo{c:List PyData→Option Sl}{pos:Pos}{es:List Expr}{g:rB}(D:Own X.prog X.w X.K X.mg X.base k x ps (gh X.K c))(ha:AX X (e::es) m g)(hr:Room k X.A:=by exact Room.mono (by assumption) (by first |decide |omega))(hg:Gl X x:=by rfl)
  (hdb:(x == ("__debug__":Str))=false:=by decide) (he:starEach (e::es) X.env=(false,eval e X.env)::starEach es X.env:=by rfl) (hpl:(backTo pos (starEach es X.env)).any (·.1)=false:=by rfl):EX X (.Call (.Name x p) (e::es) [] pos) m (ak c g):=rG D hr hg ha hdb he hpl
theorem S0:FnScope ["thing"] ["thing"] (aq pj):=by and_intros
theorem Ab(M:Md K mg):Own P w K mg base 1 "is_nail" ["thing"] (gh K ji):=by
 delta ji
 refine dX (g:=ml) M.e_is_nail S0 rfl rfl (by decide) fun f cdv A outer s H E hr=>?_
 delta ml
 exact(am (aI (zJ (vt .str (by rfl) (by exact M.B.isinstance) (aa 0) (by rfl) (by exact M.B.str) PyProof.Rows.boot_str) (zJ (tX hr.units (gg (by rfl) (by exact M.B.len) (ah (aa 0) au)) ar) (D1 (Lb .le .le cG (aa 0) cG))))))
theorem S4:FnScope ["cord","runs","nail","turns","total"] ["cord"] (aq kG):=by and_intros
theorem tI(M:Md K mg):Own P w K mg base 1 "short_form" ["cord"] (gh K fW):=by
 delta fW
 refine dX (g:=iT) M.e_short_form S4 rfl rfl (by decide) fun f cdv A outer s H E hr=>?_
 delta iT
 exact(aj (aB 1 S4.nd (bO a_))
 (aj (d0 PassesOwn.never (by rfl) (bY (aa 0)) (by delta bi;exact(o5 (by rfl) (eO (aG 2 S4.nd) (eO (aG 3 S4.nd) ma))))
 (by delta bj;exact(aj (aB 4 S4.nd (aa 3))
 (aj (cf (B8 (D2 (gT (aa 1)) (AN (iq hr.units (gz (gz (aa 1) (u8 ar)) ar) (aa 2)))))
 (am (aB 4 S4.nd (aN (gz (D8 1) ar) (aa 3))))
 aT)
 (am (cf (pZ hr.units (aa 4) ar)
 (am (fD (eS 1 (lA (aF (aa 2) (aF (aa 4) a_))))))
 aT))))))
 (am (aI (aa 1)))))
theorem S5:FnScope ["cord"] ["cord"] (aq pk):=by and_intros
theorem nR(M:Md K mg):Own P w K mg base 2 "is_fall" ["cord"] (gh K gj):=by
 delta gj
 refine dX (g:=mn) M.e_is_fall S5 rfl rfl (by decide) fun f cdv A outer s H E hr=>?_
 delta mn
 exact(am (aI (tX hr.units (gg (by rfl) (by exact M.B.len) (ah (xo (tI M) (ah (aa 0) au)) au)) ar)))
theorem S6:FnScope ["one","other"] ["one","other"] (aq su):=by and_intros
theorem CZ(M:Md K mg):Own P w K mg base 1 "joined" ["one","other"] (gh K i6):=by
 delta i6
 refine dX (g:=oE) M.e_joined S6 rfl rfl (by decide) fun f cdv A outer s H E hr=>?_
 delta oE
 exact(am (aI (aN (aa 0) (aa 1))))
theorem S7:FnScope ["cord"] ["cord"] (aq nG):=by and_intros
theorem qg(M:Md K mg):Own P w K mg base 1 "contrary" ["cord"] (gh K gq):=by
 delta gq
 refine dX (g:=kB) M.e_contrary S7 rfl rfl (by decide) fun f cdv A outer s H E hr=>?_
 delta kB
 exact(am (aI (fj (N:=["nail","turns"]) (js:=[none,none]) eD (by rfl) (vw (by rfl) (by exact M.B.reversed) (aa 0)) (fun _ _ _ _=>(by delta h9;exact(o5 (by rfl) (eO (aG 0 (show(["nail","turns"]:List Str).Nodup by decide+kernel)) (eO (aG 1 (show(["nail","turns"]:List Str).Nodup by decide+kernel)) ma))))) (fun _ _ _ _=>(by delta fX;exact(lA (aF (aa 0) (aF (u8 (aa 1)) a_))))))))
theorem S8:FnScope ["one","other"] ["one","other"] (aq g5):=by and_intros
theorem oH(M:Md K mg):Own P w K mg base 2 "there_and_back" ["one","other"] (gh K cy):=by
 delta cy
 refine dX (g:=fF) M.e_there_and_back S8 rfl rfl (by decide) fun f cdv A outer s H E hr=>?_
 delta fF
 exact(am (aI (aN (aN (aN (aa 0) (aa 1)) (xo (qg M) (ah (aa 0) au))) (xo (qg M) (ah (aa 1) au)))))
theorem S9:FnScope ["nails","sign"] ["nails"] (aq sx):=by and_intros
theorem pH(M:Md K mg):Own P w K mg base 2 "set_of" ["nails"] (gh K eT):=by
 delta eT
 refine dX (g:=oF) M.e_set_of S9 rfl rfl (by decide) fun f cdv A outer s H E hr=>?_
 delta oF
 exact(aj (cf (m9 (gT (vt .str (by rfl) (by exact M.B.isinstance) (aa 0) (by rfl) (by exact M.B.str) PyProof.Rows.boot_str)))
 (am iu)
 aT)
 (aj (d0 PassesOwn.never (by rfl) (bY (aa 0)) (by delta iw;exact(aG 1 S9.nd))
 (by delta iy;exact(am (cf (m9 (gT (xo (Ab M) (ah (aa 1) au))))
 (am iu)
 aT))))
 (am (aI (jH (jd rfl (by rfl) (by exact M.B.sorted) (by rfl) (by exact M.B.set) (aa 0)))))))
theorem Sa:FnScope ["cord"] ["cord"] (aq nH):=by and_intros
theorem xQ(M:Md K mg):Own P w K mg base 1 "nails_of" ["cord"] (gh K fq):=by
 delta fq
 refine dX (g:=kC) M.e_nails_of Sa rfl rfl (by decide) fun f cdv A outer s H E hr=>?_
 delta kC
 exact(am (aI (jH (jd rfl (by rfl) (by exact M.B.sorted) (by rfl) (by exact M.B.set) (fj (N:=["nail","turns"]) (js:=[none,none]) eD (by rfl) (bY (aa 0)) (fun _ _ _ _=>(by delta ie;exact(o5 (by rfl) (eO (aG 0 (show(["nail","turns"]:List Str).Nodup by decide+kernel)) (eO (aG 1 (show(["nail","turns"]:List Str).Nodup by decide+kernel)) ma))))) (fun _ _ _ _=>(by delta ig;exact(aa 0))))))))
theorem Sb:FnScope ["cord","nails","drawn"] ["cord","nails"] (aq pq):=by and_intros
theorem Ac(M:Md K mg):Own P w K mg base 3 "without" ["cord","nails"] (gh K jj):=by
 delta jj
 refine dX (g:=mq) M.e_without Sb rfl rfl (by decide) fun f cdv A outer s H E hr=>?_
 delta mq
 exact(aj (aB 2 Sb.nd (xo (pH M) (ah (aa 1) au)))
 (am (aI (jZ (N:=["piece","drawn"]) (js:=[none,some 2]) fS (by rfl) (bY (aa 0)) (fun _ _ _ _=>(by delta iU;exact(aG 0 (show(["piece","drawn"]:List Str).Nodup by decide+kernel)))) (fun _ _ _ _=>(by delta fG;exact(Em (gz (aa 0) ar) (aa 1)))) (fun _ _ _ _=>(by delta iV;exact(aa 0)))))))
theorem Sc:FnScope ["cord","nails"] ["cord","nails"] (aq iG):=by and_intros
theorem pI(M:Md K mg):Own P w K mg base 4 "falls_without" ["cord","nails"] (gh K cO):=by
 delta cO
 refine dX (g:=gc) M.e_falls_without Sc rfl rfl (by decide) fun f cdv A outer s H E hr=>?_
 delta gc
 exact(am (aI (xo (nR M) (ah (xo (Ac M) (ah (aa 0) (ah (aa 1) au))) au))))
theorem Sd:FnScope ["nails","bits","bit","letter"] ["nails"] (aq pv):=by and_intros
theorem nS(M:Md K mg):Own P w K mg base 1 "bits_of" ["nails"] (gh K cS):=by
 obtain⟨t_LETTERS,G_LETTERS⟩:=M.G_LETTERS
 delta cS
 refine dX (g:=mr) M.e_bits_of Sd rfl rfl (by decide) fun f cdv A outer s H E hr=>?_
 delta mr
 exact(aj (aB 1 Sd.nd ar)
 (aj (aB 2 Sd.nd ar)
 (aj (d0 PassesOwn.never (by rfl) (bY (GU (by rfl) (by exact G_LETTERS))) (by delta gB;exact(aG 3 Sd.nd))
 (by delta gC;exact(aj (cf (Lg (aa 3) (aa 0))
 (am (aB 1 Sd.nd (aN (aa 1) (aa 2))))
 aT)
 (am (aB 2 Sd.nd (gy (aa 2) ar))))))
 (am (aI (aa 1))))))
theorem Se:FnScope ["sets"] ["sets"] (aq dm):=by and_intros
theorem pJ(M:Md K mg):Own P w K mg base 1 "in_told_order" ["sets"] (gh K bF):=by
 obtain⟨c,T,D⟩:=M.e_in_told_order
 delta bF
 refine MM (g:=gd) D Se rfl rfl (by decide) fun f A outer s H E hr=>?_
 delta gd
 exact(am (aI (ET rfl D.tp D.hd hr (by rfl) (by exact M.B.sorted) (by exact M.B.len) (aa 0) (by show(Str.ofString "in_told_order"++Str.ofString ".<locals>.")++Str.ofString "<lambda>"=_;decide+kernel))))
theorem Sf:FnScope ["bits","parts","part"] ["bits","parts"] (aq g6):=by and_intros
theorem oI(M:Md K mg):Own P w K mg base 1 "has_part_among" ["bits","parts"] (gh K ba):=by
 delta ba
 refine dX (g:=d7) M.e_has_part_among Sf rfl rfl (by decide) fun f cdv A outer s H E hr=>?_
 delta d7
 exact(aj (d0 PassesOwn.never (by rfl) (bY (aa 1)) (by delta bR;exact(aG 2 Sf.nd))
 (by delta bq;exact(am (cf (iq hr.units (vz (aa 2) (aa 0)) (aa 2))
 (am (aI pW))
 aT))))
 (am (aI pW)))
theorem Sh:FnScope ["bits","others","other"] ["bits","others"] (aq kH):=by and_intros
theorem tJ(M:Md K mg):Own P w K mg base 1 "meets_each" ["bits","others"] (gh K dP):=by
 delta dP
 refine dX (g:=gD) M.e_meets_each Sh rfl rfl (by decide) fun f cdv A outer s H E hr=>?_
 delta gD
 exact(aj (d0 PassesOwn.never (by rfl) (bY (aa 1)) (by delta dg;exact(aG 2 Sh.nd))
 (by delta cH;exact(am (cf (iq hr.units (vz (aa 2) (aa 0)) ar)
 (am (aI pW))
 aT))))
 (am (aI pW)))
theorem Si:FnScope ["sets","told","kept","nails","bits"] ["sets"] (aq nI):=by and_intros
theorem lQ(M:Md K mg):Own P w K mg base 2 "least_of" ["sets"] (gh K cL):=by
 delta cL
 refine dX (g:=jk) M.e_least_of Si rfl rfl (by decide) fun f cdv A outer s H E hr=>?_
 delta jk
 exact(aj (aB 1 Si.nd (bO a_))
 (aj (aB 2 Si.nd (bO a_))
 (aj (d0 PassesOwn.never (by rfl) (bY (xo (pJ M) (ah (aa 0) au))) (by delta dQ;exact(aG 3 Si.nd))
 (by delta cK;exact(aj (aB 4 Si.nd (xo (nS M) (ah (aa 3) au)))
 (am (cf (m9 (gT (xo (oI M) (ah (aa 4) (ah (aa 2) au)))))
 (aj (fD (eS 2 (aa 4)))
 (am (fD (eS 1 (aa 3)))))
 aT)))))
 (am (aI (aa 1))))))
theorem Sj:FnScope ["nails","sets","nail"] ["nails"] (aq nJ):=by and_intros
theorem qh(M:Md K mg):Own P w K mg base 1 "all_sets" ["nails"] (gh K bG):=by
 delta bG
 refine dX (g:=gk) M.e_all_sets Sj rfl rfl (by decide) fun f cdv A outer s H E hr=>?_
 delta gk
 exact(aj (aB 1 Sj.nd (bO (aF cG a_)))
 (aj (d0 PassesOwn.never (by rfl) (bY (aa 0)) (by delta dR;exact(aG 2 Sj.nd))
 (by delta dS;exact(am (aB 1 Sj.nd (aN (aa 1) (fj (N:=["chosen","nail"]) (js:=[none,some 2]) fS (by rfl) (bY (aa 1)) (fun _ _ _ _=>(by delta ii;exact(aG 0 (show(["chosen","nail"]:List Str).Nodup by decide+kernel)))) (fun _ _ _ _=>(by delta fY;exact(aN (aa 0) (aa 1))))))))))
 (am (aI (aa 1)))))
theorem Sk:FnScope ["nails"] ["nails"] (aq kI):=by and_intros
theorem mO(M:Md K mg):Own P w K mg base 1 "check_many" ["nails"] (gh K cM):=by
 obtain⟨t_MOST_NAILS,G_MOST_NAILS⟩:=M.G_MOST_NAILS
 delta cM
 refine dX (g:=iW) M.e_check_many Sk rfl rfl (by decide) fun f cdv A outer s H E hr=>?_
 delta iW
 exact(am (cf (rM .gt (gg (by rfl) (by exact M.B.len) (ah (aa 0) au)) (AV (by rfl) (by exact G_MOST_NAILS)))
 (am iu)
 aT))
theorem Sm:FnScope ["sets"] ["sets"] (aq jO):=by and_intros
theorem sD(M:Md K mg):Own P w K mg base 3 "nails_among" ["sets"] (gh K cU):=by
 delta cU
 refine dX (g:=ij) M.e_nails_among Sm rfl rfl (by decide) fun f cdv A outer s H E hr=>?_
 delta ij
 exact(am (aI (xo (pH M) (ah (jH (aa 0)) au))))
theorem Sn:FnScope ["family"] ["family"] (aq kJ):=by and_intros
theorem mP(M:Md K mg):Own P w K mg base 3 "least_sets" ["family"] (gh K bA):=by
 delta bA
 refine dX (g:=iX) M.e_least_sets Sn rfl rfl (by decide) fun f cdv A outer s H E hr=>?_
 delta iX
 exact(am (aI (xo (lQ M) (ah (fj (N:=["nails"]) (js:=[none]) eD (by rfl) (bY (aa 0)) (fun _ _ _ _=>(by delta dh;exact(aG 0 (show(["nails"]:List Str).Nodup by decide+kernel)))) (fun _ _ _ _=>(by delta di;exact(xo (pH M) (ah (aa 0) au))))) au))))
theorem Sq:FnScope ["family","others","nails"] ["family"] (aq ju):=by and_intros
theorem k9(M:Md K mg):Own P w K mg base 4 "meeting_sets" ["family"] (gh K aU):=by
 delta aU
 refine dX (g:=ft) M.e_meeting_sets Sq rfl rfl (by decide) fun f cdv A outer s H E hr=>?_
 delta ft
 exact(aj (aB 1 Sq.nd (fj (N:=["nails"]) (js:=[none]) eD (by rfl) (bY (xo (mP M) (ah (aa 0) au))) (fun _ _ _ _=>(by delta cA;exact(aG 0 (show(["nails"]:List Str).Nodup by decide+kernel)))) (fun _ _ _ _=>(by delta cB;exact(xo (nS M) (ah (aa 0) au))))))
 (aj (aB 2 Sq.nd (xo (sD M) (ah (aa 0) au)))
 (aj (fD (xo (mO M) (ah (aa 2) au)))
 (am (aI (xo (lQ M) (ah (jZ (N:=["chosen","others"]) (js:=[none,some 1]) fS (by rfl) (bY (xo (qh M) (ah (aa 2) au))) (fun _ _ _ _=>(by delta cC;exact(aG 0 (show(["chosen","others"]:List Str).Nodup by decide+kernel)))) (fun _ _ _ _=>(by delta bP;exact(gT (xo (tJ M) (ah (xo (nS M) (ah (aa 0) au)) (ah (aa 1) au)))))) (fun _ _ _ _=>(by delta cD;exact(aa 0)))) au)))))))
theorem Sr:FnScope ["cord","nails"] ["cord"] (aq jv):=by and_intros
theorem qG(M:Md K mg):Own P w K mg base 5 "falling_sets" ["cord"] (gh K cI):=by
 delta cI
 refine dX (g:=fu) M.e_falling_sets Sr rfl rfl (by decide) fun f cdv A outer s H E hr=>?_
 delta fu
 exact(aj (aB 1 Sr.nd (xo (xQ M) (ah (aa 0) au)))
 (aj (fD (xo (mO M) (ah (aa 1) au)))
 (am (aI (xo (lQ M) (ah (jZ (N:=["chosen","cord"]) (js:=[none,some 0]) fS (by rfl) (bY (xo (qh M) (ah (aa 1) au))) (fun _ _ _ _=>(by delta dG;exact(aG 0 (show(["chosen","cord"]:List Str).Nodup by decide+kernel)))) (fun _ _ _ _=>(by delta cE;exact(gT (xo (pI M) (ah (aa 1) (ah (aa 0) au)))))) (fun _ _ _ _=>(by delta dH;exact(aa 0)))) au))))))
theorem Ss:FnScope ["sets"] ["sets"] (aq gn):=by and_intros
theorem mE(M:Md K mg):Own P w K mg base 4 "least_or_no_rule" ["sets"] (gh K bu):=by
 delta bu
 refine dX (g:=cV) M.e_least_or_no_rule Ss rfl rfl (by decide) fun f cdv A outer s H E hr=>?_
 delta cV
 exact(am (JK rfl
 (am (aI (xo (mP M) (ah (aa 0) au))))))
theorem Su:FnScope ["thing"] ["thing"] (aq kK):=by and_intros
theorem tK(M:Md K mg):Own P w K mg base 5 "check_rule" ["thing"] (gh K eU):=by
 delta eU
 refine dX (g:=gE) M.e_check_rule Su rfl rfl (by decide) fun f cdv A outer s H E hr=>?_
 delta gE
 exact(aj (cf (B8 (wI (m9 (gT (vt .list (by rfl) (by exact M.B.isinstance) (aa 0) (by rfl) (by exact M.B.list) PyProof.Rows.boot_list))) (u_ (iq hr.units (gg (by rfl) (by exact M.B.len) (ah (aa 0) au)) ar))))
 (am iu)
 aT)
 (aj (cf (pZ hr.units (xo (mE M) (ah (aa 0) au)) (aa 0))
 (am iu)
 aT)
 (am (cf (iq hr.units (gz (aa 0) ar) cG)
 (am iu)
 aT))))
theorem Sv:FnScope ["number"] ["number"] (aq kM):=by and_intros
theorem mQ(M:Md K mg):Own P w K mg base 1 "first_half" ["number"] (gh K cN):=by
 delta cN
 refine dX (g:=iY) M.e_first_half Sv rfl rfl (by decide) fun f cdv A outer s H E hr=>?_
 delta iY
 exact(am (aI (e_ (aN (aa 0) ar) ar)))
theorem Sw:FnScope ["nails","middle"] ["nails"] (aq jw):=by and_intros
theorem kh(M:Md K mg):∀k:Nat,Own P w K mg base (2+k+1) "halves_round" ["nails"] (gh K (cP k))
 | 0=>wQ M.e_halves_round Sw
 |k+1=>by
  have D_halves_round:=kh M k
  show Own P w K mg base (2+k+1+1) "halves_round" ["nails"] (gh K (fi 1 2 (cg (cP k))))
  generalize cP k=self at D_halves_round ⊢
  refine dX (k:=2+k+1) (g:=cg self) M.e_halves_round Sw rfl rfl (by decide) fun f cdv A outer s H E hr=>?_
  delta cg
  exact(aj (cf (iq hr.units (gg (by rfl) (by exact M.B.len) (ah (aa 0) au)) ar)
 (am (aI (bO (aF (lA (aF (aa 0) (aF ar a_))) a_))))
 aT)
 (aj (aB 1 Sw.nd (xo (mQ M) (ah (gg (by rfl) (by exact M.B.len) (ah (aa 0) au)) au)))
 (am (aI (xo (oH M) (ah (rG D_halves_round hr (by rfl) (ah (gW (aa 0) hO (dY (aa 1))) au)) (ah (rG D_halves_round hr (by rfl) (ah (gW (aa 0) (dY (aa 1)) hO) au)) au)))))))
theorem qH(M:Md K mg):Own P w K mg base 11 "halves_round" ["nails"] (gh K eP):=kh M 8
theorem Sy:FnScope ["number","middle"] ["number"] (aq jx):=by and_intros
theorem ki(M:Md K mg):∀k:Nat,Own P w K mg base (1+k+1) "round_pieces" ["number"] (gh K (cQ k))
 | 0=>wQ M.e_round_pieces Sy
 |k+1=>by
  have D_round_pieces:=ki M k
  show Own P w K mg base (1+k+1+1) "round_pieces" ["number"] (gh K (fi 1 2 (ck (cQ k))))
  generalize cQ k=self at D_round_pieces ⊢
  refine dX (k:=1+k+1) (g:=ck self) M.e_round_pieces Sy rfl rfl (by decide) fun f cdv A outer s H E hr=>?_
  delta ck
  exact(aj (cf (iq hr.units (aa 0) ar)
 (am (aI ar))
 aT)
 (aj (aB 1 Sy.nd (xo (mQ M) (ah (aa 0) au)))
 (am (aI (gy ar (aN (rG D_round_pieces hr (by rfl) (ah (aa 1) au)) (rG D_round_pieces hr (by rfl) (ah (m7 (aa 0) (aa 1)) au))))))))
theorem qI(M:Md K mg):Own P w K mg base 10 "round_pieces" ["number"] (gh K k8):=ki M 8
theorem Sz:FnScope ["rule"] ["rule"] (aq iH):=by and_intros
theorem pK(M:Md K mg):Own P w K mg base 11 "pieces_needed" ["rule"] (gh K bH):=by
 delta bH
 refine dX (g:=eQ) M.e_pieces_needed Sz rfl rfl (by decide) fun f cdv A outer s H E hr=>?_
 delta eQ
 exact(aj (fD (xo (tK M) (ah (aa 0) au)))
 (am (aI (Eo (by rfl) (by rfl) (by exact M.B.sum) (ah (fj (N:=["nails"]) (js:=[none]) eD (by rfl) (bY (xo (k9 M) (ah (aa 0) au))) (fun _ _ _ _=>(by delta gl;exact(aG 0 (show(["nails"]:List Str).Nodup by decide+kernel)))) (fun _ _ _ _=>(by delta eJ;exact(xo (qI M) (ah (gg (by rfl) (by exact M.B.len) (ah (aa 0) au)) au))))) au)))))
theorem R0:FnScope ["rule","cord","nails"] ["rule"] (aq pA):=by and_intros
theorem sE(M:Md K mg):Own P w K mg base 12 "cord_of" ["rule"] (gh K eK):=by
 obtain⟨t_MOST_PIECES,G_MOST_PIECES⟩:=M.G_MOST_PIECES
 delta eK
 refine dX (g:=j_) M.e_cord_of R0 rfl rfl (by decide) fun f cdv A outer s H E hr=>?_
 delta j_
 exact(aj (cf (rM .gt (xo (pK M) (ah (aa 0) au)) (AV (by rfl) (by exact G_MOST_PIECES)))
 (am iu)
 aT)
 (aj (aB 1 R0.nd (bO a_))
 (aj (d0 PassesOwn.never (by rfl) (bY (xo (k9 M) (ah (aa 0) au))) (by delta gG;exact(aG 2 R0.nd))
 (by delta fH;exact(am (aB 1 R0.nd (xo (CZ M) (ah (aa 1) (ah (xo (qH M) (ah (aa 2) au)) au)))))))
 (am (aI (aa 1))))))
theorem R3:FnScope ["cord"] ["cord"] (aq pB):=by and_intros
theorem Ad(M:Md K mg):Own P w K mg base 6 "rule_of" ["cord"] (gh K jl):=by
 obtain⟨C_NoRule,m_NoRule,t_NoRule,z_NoRule⟩:=M.XX.c_NoRule
 delta jl
 refine dX (g:=ms) M.e_rule_of R3 rfl rfl (by decide) fun f cdv A outer s H E hr=>?_
 delta ms
 exact(aj (cf (gT (xo (nR M) (ah (aa 0) au)))
 (am iu)
 aT)
 (am (aI (xo (qG M) (ah (aa 0) au)))))
theorem xR(M:Md K mg):OwnR P w K mg base 6 "rule_of" ["cord"] (L4 K eL):=by
 obtain⟨C_NoRule,m_NoRule,t_NoRule,z_NoRule⟩:=M.XX.c_NoRule
 delta eL
 refine MH (mk:=true) (al:=true) (r:=ka) M.e_rule_of R3 rfl rfl (by decide) fun f cdv A outer s H E hr=>?_
 delta ka
 exact(vI (Lm (gT (xo (nR M) (ah (aa 0) au))) (vI (EC (by rfl) (by rfl) z_NoRule))))
theorem R4:FnScope ["_law_script","_law_k"] ["_law_script","_law_k"] (aq sy):=by and_intros
theorem g7(M:Md K mg):Own P w K mg base 1 "_law_at" ["_law_script","_law_k"] (gh K aR):=by
 delta aR
 refine dX (g:=oG) M.e_law_at R4 rfl rfl (by decide) fun f cdv A outer s H E hr=>?_
 delta oG
 exact(aj (cf (rM .lt (aa 1) (gg (by rfl) (by exact M.B.len) (ah (aa 0) au)))
 (am (aI (gz (aa 0) (aa 1))))
 aT)
 (am (aI ar)))
theorem R5:FnScope ["_law_cell","_law_k","_law_one"] ["_law_cell","_law_k"] (aq pD):=by and_intros
theorem nT(M:Md K mg):Own P w K mg base 1 "_law_mix" ["_law_cell","_law_k"] (gh K b_):=by
 delta b_
 refine dX (g:=mz) M.e_law_mix R5 rfl rfl (by decide) fun f cdv A outer s H E hr=>?_
 delta mz
 exact(aj (aB 2 R5.nd (dN (aN (aN (gy (dN (aa 0) (rD ar ar)) (aN ar (gy ar (aa 1)))) (gy ar (aa 1))) ar) ar))
 (am (aI (dN (gy (aa 2) (aN (aN (e_ (aa 2) ar) (gy ar (aa 1))) ar)) ar))))
theorem R6:FnScope ["_law_cord_here"] ["_law_cord_here"] (aq jy):=by and_intros
theorem iI(M:Md K mg):Own P w K mg base 1 "_law_contrary" ["_law_cord_here"] (gh K bU):=by
 delta bU
 refine dX (g:=gH) M.e_law_contrary R6 rfl rfl (by decide) fun f cdv A outer s H E hr=>?_
 delta gH
 exact(am (aI (fj (N:=["_law_nail","_law_turns"]) (js:=[none,none]) eD (by rfl) (vw (by rfl) (by exact M.B.reversed) (aa 0)) (fun _ _ _ _=>(by delta fe;exact(o5 (by rfl) (eO (aG 0 (show(["_law_nail","_law_turns"]:List Str).Nodup by decide+kernel)) (eO (aG 1 (show(["_law_nail","_law_turns"]:List Str).Nodup by decide+kernel)) ma))))) (fun _ _ _ _=>(by delta dI;exact(lA (aF (aa 0) (aF (m7 ar (aa 1)) a_))))))))
theorem R7:FnScope ["_law_cell","_law_rest","_law_nail","_law_many","_law_found","_law_k","_law_value"] ["_law_cell"] (aq kN):=by and_intros
theorem jP(M:Md K mg):Own P w K mg base 2 "_law_pieces" ["_law_cell"] (gh K cc):=by
 delta cc
 refine dX (g:=gI) M.e_law_pieces R7 rfl rfl (by decide) fun f cdv A outer s H E hr=>?_
 delta gI
 exact(aj (aB 1 R7.nd (e_ (aa 0) ar))
 (aj (cf (iq hr.units (dN (aa 0) ar) ar)
 (aj (aB 2 R7.nd (gz cG (dN (aa 1) ar)))
 (am (aI (bO (aF (lA (aF (aa 2) (aF (m7 (dN (e_ (aa 1) ar) (m7 (gy ar (rD ar ar)) ar)) (m7 (rD ar ar) ar)) a_))) a_)))))
 aT)
 (aj (aB 3 R7.nd (dN (aa 1) ar))
 (aj (aB 1 R7.nd (e_ (aa 1) ar))
 (aj (aB 4 R7.nd (bO a_))
 (aj (d0 PassesOwn.never (by rfl) (jY (by rfl) (by exact M.B.range) (ah (aa 3) au)) (by delta bV;exact(aG 5 R7.nd))
 (by delta bW;exact(aj (aB 6 R7.nd (aa 1))
 (aj (cf (B8 (wI (rM .lt (D7 (by rfl) (by exact M.B.abs) (ah (aa 0) au)) (rD ar ar)) (u_ (Lc .lt .lt (u8 ar) (aa 1) ar))))
 (am (aB 6 R7.nd (xo (nT M) (ah (aa 0) (ah (aa 5) au)))))
 aT)
 (aj (fD (eS 4 (lA (aF (gz cG (dN (aa 6) ar)) (aF (m7 (dN (e_ (aa 6) ar) ar) ar) a_)))))
 (am (aB 1 R7.nd (e_ (aa 1) ar))))))))
 (am (aI (aa 4)))))))))
theorem R8:FnScope ["_law_script","_law_first","_law_last","_law_most","_law_cord_here","_law_cell","_law_at_here","_law_pieces_here"] ["_law_script","_law_first","_law_last","_law_most"] (aq nK):=by and_intros
theorem xS(M:Md K mg):Own P w K mg base 3 "_law_cord" ["_law_script","_law_first","_law_last","_law_most"] (gh K fv):=by
 delta fv
 refine dX (g:=kD) M.e_law_cord R8 rfl rfl (by decide) fun f cdv A outer s H E hr=>?_
 delta kD
 exact(aj (aB 4 R8.nd (bO a_))
 (aj (d0 PassesOwn.never (by rfl) (bY (aN (bO (aF (xo (g7 M) (ah (aa 0) (ah (aa 1) au))) a_)) (gW (aa 0) (dY (aN (aa 1) ar)) (dY (aa 2))))) (by delta bK;exact(aG 5 R8.nd))
 (by delta bL;exact(aj (aB 6 R8.nd (dN (e_ (aa 5) ar) (aN (gg (by rfl) (by exact M.B.len) (ah (aa 4) au)) ar)))
 (aj (cf (iq hr.units (dN (aa 5) ar) ar)
 (am (aB 4 R8.nd (aN (aa 4) (xo (iI M) (ah (gW (aa 4) (dY (aa 6)) hO) au)))))
 (am (cf (iq hr.units (dN (aa 5) ar) ar)
 (aj (aB 7 R8.nd (xo (jP M) (ah (e_ (aa 5) ar) au)))
 (aj (aB 7 R8.nd (aN (aa 7) (xo (iI M) (ah (aa 7) au))))
 (am (aB 4 R8.nd (aN (aN (gW (aa 4) hO (dY (aa 6))) (aa 7)) (gW (aa 4) (dY (aa 6)) hO))))))
 (am (aB 4 R8.nd (aN (aa 4) (xo (jP M) (ah (aa 5) au))))))))
 (am (aB 4 R8.nd (gW (aa 4) hO (dY (aa 3)))))))))
 (am (aI (aa 4)))))
theorem R9:FnScope ["_law_cord_here","_law_runs_here","_law_nail","_law_turns"] ["_law_cord_here"] (aq nM):=by and_intros
theorem qi(M:Md K mg):Own P w K mg base 1 "_law_runs" ["_law_cord_here"] (gh K cm):=by
 delta cm
 refine dX (g:=kE) M.e_law_runs R9 rfl rfl (by decide) fun f cdv A outer s H E hr=>?_
 delta kE
 exact(aj (aB 1 R9.nd (bO a_))
 (aj (d0 PassesOwn.never (by rfl) (vw (by rfl) (by exact M.B.reversed) (aa 0)) (by delta bB;exact(o5 (by rfl) (eO (aG 2 R9.nd) (eO (aG 3 R9.nd) ma))))
 (by delta bM;exact(aj (cf (B8 (D2 (pZ hr.units (aa 1) (bO a_)) (AN (iq hr.units (gz (gz (aa 1) (u8 ar)) ar) (aa 2)))))
 (am (aB 3 R9.nd (aN (aa 3) (gz (D8 1) ar))))
 aT)
 (am (cf (pZ hr.units (aa 3) ar)
 (am (fD (eS 1 (lA (aF (aa 2) (aF (aa 3) a_))))))
 aT)))))
 (am (aI (fj (N:=["_law_run"]) (js:=[none]) eD (by rfl) (vw (by rfl) (by exact M.B.reversed) (aa 1)) (fun _ _ _ _=>(by delta il;exact(aG 0 (show(["_law_run"]:List Str).Nodup by decide+kernel)))) (fun _ _ _ _=>(by delta io;exact(aa 0))))))))
theorem Ra:FnScope ["_law_e","_law_kinds","_law_words"] ["_law_e"] (aq nN):=by and_intros
theorem xT(M:Md K mg):OwnH P w K mg base 1 "_law_word" ["_law_e"] (gh K iz):=by
 obtain⟨C_NoCord,m_NoCord,t_NoCord⟩:=M.XX.c_NoCord
 obtain⟨C_NoNails,m_NoNails,t_NoNails⟩:=M.XX.c_NoNails
 obtain⟨C_NoRule,m_NoRule,t_NoRule,z_NoRule⟩:=M.XX.c_NoRule
 obtain⟨C_NoText,m_NoText,t_NoText⟩:=M.XX.c_NoText
 obtain⟨C_NoMove,m_NoMove,t_NoMove⟩:=M.XX.c_NoMove
 obtain⟨C_NoLine,m_NoLine,t_NoLine⟩:=M.XX.c_NoLine
 obtain⟨C_NoName,m_NoName,t_NoName⟩:=M.XX.c_NoName
 obtain⟨C_NoNumber,m_NoNumber,t_NoNumber⟩:=M.XX.c_NoNumber
 obtain⟨C_TooMany,m_TooMany,t_TooMany⟩:=M.XX.c_TooMany
 obtain⟨C_TooLong,m_TooLong,t_TooLong⟩:=M.XX.c_TooLong
 obtain⟨v_ValueError,t_ValueError⟩:=M.XX.v_ValueError
 delta iz
 refine MI (g:=kF) M.e_law_word Ra rfl rfl (by decide) fun f cdv A outer s H E hr=>?_
 delta kF
 exact(aj (aB 1 Ra.nd (bO (aF (hZ (by rfl) (by exact M.B.isinstance) (aa 0) (by rfl) (by exact m_NoCord) t_NoCord) (aF (hZ (by rfl) (by exact M.B.isinstance) (aa 0) (by rfl) (by exact m_NoNails) t_NoNails) (aF (hZ (by rfl) (by exact M.B.isinstance) (aa 0) (by rfl) (by exact m_NoRule) t_NoRule) (aF (hZ (by rfl) (by exact M.B.isinstance) (aa 0) (by rfl) (by exact m_NoText) t_NoText) a_))))))
 (aj (aB 1 Ra.nd (aN (aa 1) (bO (aF (hZ (by rfl) (by exact M.B.isinstance) (aa 0) (by rfl) (by exact m_NoMove) t_NoMove) (aF (hZ (by rfl) (by exact M.B.isinstance) (aa 0) (by rfl) (by exact m_NoLine) t_NoLine) (aF (hZ (by rfl) (by exact M.B.isinstance) (aa 0) (by rfl) (by exact m_NoName) t_NoName) a_))))))
 (aj (aB 1 Ra.nd (aN (aa 1) (bO (aF (hZ (by rfl) (by exact M.B.isinstance) (aa 0) (by rfl) (by exact m_NoNumber) t_NoNumber) (aF (hZ (by rfl) (by exact M.B.isinstance) (aa 0) (by rfl) (by exact m_TooMany) t_TooMany) (aF (hZ (by rfl) (by exact M.B.isinstance) (aa 0) (by rfl) (by exact m_TooLong) t_TooLong) a_))))))
 (aj (cf (B8 (wI (m9 (gT (G4 (by rfl) (by exact M.B.isinstance) (aa 0) (by rfl) (by exact v_ValueError) PyProof.Rows.Boot.«ValueError» t_ValueError))) (u_ (pZ hr.units (CB 1) ar))))
 (am (aI cG))
 aT)
 (aj (aB 2 Ra.nd (bO (aF cG (aF cG (aF cG (aF cG (aF cG (aF cG (aF cG (aF cG (aF cG (aF cG a_))))))))))))
 (am (aI (gz (aa 2) (CC 1)))))))))
theorem Rb:FnScope ["_law_nails","_law_found","_law_nail"] ["_law_nails"] (aq nO):=by and_intros
theorem xV(M:Md K mg):Own P w K mg base 1 "_law_sets" ["_law_nails"] (gh K gr):=by
 delta gr
 refine dX (g:=nD) M.e_law_sets Rb rfl rfl (by decide) fun f cdv A outer s H E hr=>?_
 delta nD
 exact(aj (aB 1 Rb.nd (bO (aF cG a_)))
 (aj (d0 PassesOwn.never (by rfl) (bY (aa 0)) (by delta mL;exact(aG 2 Rb.nd))
 (by delta mM;exact(am (aB 1 Rb.nd (aN (aa 1) (fj (N:=["_law_one","_law_nail"]) (js:=[none,some 2]) fS (by rfl) (bY (aa 1)) (fun _ _ _ _=>(by delta mJ;exact(aG 0 (show(["_law_one","_law_nail"]:List Str).Nodup by decide+kernel)))) (fun _ _ _ _=>(by delta mK;exact(aN (aa 0) (aa 1))))))))))
 (am (aI (aa 1)))))
theorem Rc:FnScope ["_law_one","_law_sets_here","_law_other"] ["_law_one","_law_sets_here"] (aq jz):=by and_intros
theorem qJ(M:Md K mg):Own P w K mg base 1 "_law_has_part" ["_law_one","_law_sets_here"] (gh K cJ):=by
 delta cJ
 refine dX (g:=fw) M.e_law_has_part Rc rfl rfl (by decide) fun f cdv A outer s H E hr=>?_
 delta fw
 exact(aj (d0 PassesOwn.never (by rfl) (bY (aa 1)) (by delta bw;exact(aG 2 Rc.nd))
 (by delta be;exact(am (cf (gT (Jw (by rfl) (by rfl) (by exact M.B.all) (ah (fj (N:=["_law_nail","_law_one"]) (js:=[none,some 0]) fS (by rfl) (bY (aa 2)) (fun _ _ _ _=>(by delta dJ;exact(aG 0 (show(["_law_nail","_law_one"]:List Str).Nodup by decide+kernel)))) (fun _ _ _ _=>(by delta cF;exact(Lf (aa 0) (aa 1))))) au)))
 (am (aI pW))
 aT))))
 (am (aI pW)))
theorem Re:FnScope ["_law_sets_here","_law_kept","_law_size","_law_one"] ["_law_sets_here"] (aq lN):=by and_intros
theorem kO(M:Md K mg):Own P w K mg base 2 "_law_least" ["_law_sets_here"] (gh K bQ):=by
 delta bQ
 refine dX (g:=iA) M.e_law_least Re rfl rfl (by decide) fun f cdv A outer s H E hr=>?_
 delta iA
 exact(aj (aB 1 Re.nd (bO a_))
 (aj (d0 PassesOwn.never (by rfl) (Cc (by rfl) (by exact M.B.range) (ah ar (ah ar au))) (by delta d9;exact(aG 2 Re.nd))
 (by delta d_;exact(am (d0 PassesOwn.never (by rfl) (bY (zY (by rfl) (by exact M.B.sorted) (jZ (N:=["_law_other","_law_size"]) (js:=[none,some 2]) fS (by rfl) (bY (aa 0)) (fun _ _ _ _=>(by delta cW;exact(aG 0 (show(["_law_other","_law_size"]:List Str).Nodup by decide+kernel)))) (fun _ _ _ _=>(by delta cY;exact(iq hr.units (gg (by rfl) (by exact M.B.len) (ah (aa 0) au)) (aa 1)))) (fun _ _ _ _=>(by delta cX;exact(aa 0)))))) (by delta d8;exact(aG 3 Re.nd))
 (by delta cZ;exact(am (cf (m9 (gT (xo (qJ M) (ah (aa 3) (ah (aa 1) au)))))
 (am (fD (eS 1 (aa 3))))
 aT)))))))
 (am (aI (aa 1)))))
theorem Rf:FnScope ["_law_script","_law_first","_law_nails","_law_sets_here","_law_cell","_law_k","_law_value","_law_one"] ["_law_script","_law_first","_law_nails"] (aq nP):=by and_intros
theorem xW(M:Md K mg):Own P w K mg base 3 "_law_rule" ["_law_script","_law_first","_law_nails"] (gh K gu):=by
 delta gu
 refine dX (g:=jm) M.e_law_rule Rf rfl rfl (by decide) fun f cdv A outer s H E hr=>?_
 delta jm
 exact(aj (aB 3 Rf.nd (bO a_))
 (aj (d0 PassesOwn.never (by rfl) (bY (aN (bO (aF (xo (g7 M) (ah (aa 0) (ah (aa 1) au))) a_)) (gW (aa 0) (dY (aN (aa 1) ar)) (dY (aN (aa 1) ar))))) (by delta f_;exact(aG 4 Rf.nd))
 (by delta dU;exact(am (d0 PassesOwn.never (by rfl) (jY (by rfl) (by exact M.B.range) (ah (aN ar (dN (aa 4) ar)) au)) (by delta f8;exact(aG 5 Rf.nd))
 (by delta f9;exact(aj (aB 6 Rf.nd (Ek (e_ (aa 4) ar) (gy ar (aa 5))))
 (aj (cf (rM .lt (D7 (by rfl) (by exact M.B.abs) (ah (aa 4) au)) (rD ar ar))
 (am (aB 6 Rf.nd (xo (nT M) (ah (aa 4) (ah (aN ar (aa 5)) au)))))
 aT)
 (aj (aB 7 Rf.nd (jH (jZ (N:=["_law_j","_law_nails","_law_value"]) (js:=[none,some 2,some 6]) fS (by rfl) (jY (by rfl) (by exact M.B.range) (ah (gg (by rfl) (by exact M.B.len) (ah (aa 2) au)) au)) (fun _ _ _ _=>(by delta fZ;exact(aG 0 (show(["_law_j","_law_nails","_law_value"]:List Str).Nodup by decide+kernel)))) (fun _ _ _ _=>(by delta eX;exact(iq hr.units (vz (Ek (aa 2) (aa 0)) ar) ar))) (fun _ _ _ _=>(by delta eW;exact(gz (aa 1) (aa 0)))))))
 (am (cf (pZ hr.units (aa 7) cG)
 (am (fD (eS 3 (aa 7))))
 aT))))))))))
 (am (aI (xo (kO M) (ah (aN (aa 3) (bO (aF (aa 2) a_))) au))))))
theorem Rg:FnScope ["_law_cord_here","_law_found","_law_e"] ["_law_cord_here"] (aq nQ):=by and_intros
theorem qj(M:Md K mg):Own P w K mg base 7 "_law_said" ["_law_cord_here"] (gh K cq):=by
 obtain⟨C_HangError,m_HangError,e_HangError⟩:=M.XX.e_HangError
 delta cq
 refine dX (g:=jn) M.e_law_said Rg rfl rfl (by decide) fun f cdv A outer s H E hr=>?_
 delta jn
 exact(aj (aB 1 Rg.nd (bO a_))
 (aj (G3 rfl Rg.nd rfl rfl rfl (by rfl) (by exact m_HangError) e_HangError (am (aB 1 Rg.nd (xo (Ad M) (ah (aa 0) au)))) (fun W=>(vI (JC (xR M) (hr.mono (by decide)) (by rfl) (ah (aa 0) au)))) (fun ea=>(am (aI (G5 (xT M) ((Room.mark hr _).mono (by decide)) (by rfl) (ah (aa 2) au))))))
 (am (aI (aa 1)))))
theorem Rh:FnScope ["_law_cord_here","_law_names","_law_letters","_law_found","_law_nail","_law_turns"] ["_law_cord_here","_law_names"] (aq pE):=by and_intros
theorem sG(M:Md K mg):Own P w K mg base 1 "_law_few" ["_law_cord_here","_law_names"] (gh K fz):=by
 delta fz
 refine dX (g:=kb) M.e_law_few Rh rfl rfl (by decide) fun f cdv A outer s H E hr=>?_
 delta kb
 exact(aj (aB 2 Rh.nd cG)
 (aj (aB 3 Rh.nd (bO a_))
 (aj (d0 PassesOwn.never (by rfl) (bY (aa 0)) (by delta fI;exact(o5 (by rfl) (eO (aG 4 Rh.nd) (eO (aG 5 Rh.nd) ma))))
 (by delta fJ;exact(am (fD (eS 3 (lA (aF (gz (aa 1) (dN (EO 2 (aa 4)) (gg (by rfl) (by exact M.B.len) (ah (aa 1) au)))) (aF (aa 5) a_))))))))
 (am (aI (aa 3))))))
theorem Ri:FnScope ["_law_cord_here","_law_nails","_law_found","_law_one"] ["_law_cord_here"] (aq pF):=by and_intros
theorem Ae(M:Md K mg):Own P w K mg base 3 "_law_due" ["_law_cord_here"] (gh K gm):=by
 delta gm
 refine dX (g:=ke) M.e_law_due Ri rfl rfl (by decide) fun f cdv A outer s H E hr=>?_
 delta ke
 exact(aj (aB 1 Ri.nd (jd rfl (by rfl) (by exact M.B.sorted) (by rfl) (by exact M.B.set) (fj (N:=["_law_piece"]) (js:=[none]) eD (by rfl) (bY (aa 0)) (fun _ _ _ _=>(by delta fK;exact(aG 0 (show(["_law_piece"]:List Str).Nodup by decide+kernel)))) (fun _ _ _ _=>(by delta eM;exact(gz (aa 0) ar))))))
 (aj (aB 2 Ri.nd (bO a_))
 (aj (d0 PassesOwn.never (by rfl) (bY (xo (xV M) (ah (aa 1) au))) (by delta gJ;exact(aG 3 Ri.nd))
 (by delta gK;exact(am (cf (iq hr.units (xo (qi M) (ah (jZ (N:=["_law_piece","_law_one"]) (js:=[none,some 3]) fS (by rfl) (bY (aa 0)) (fun _ _ _ _=>(by delta fL;exact(aG 0 (show(["_law_piece","_law_one"]:List Str).Nodup by decide+kernel)))) (fun _ _ _ _=>(by delta dL;exact(Em (gz (aa 0) ar) (aa 1)))) (fun _ _ _ _=>(by delta fM;exact(aa 0)))) au)) (bO a_))
 (am (fD (eS 2 (aa 3))))
 aT))))
 (am (aI (xo (kO M) (ah (aa 2) au)))))))
theorem Rj:FnScope ["_law_cell","_law_most","_law_letters","_law_pool","_law_sets_here","_law_k","_law_value","_law_one"] ["_law_cell","_law_most"] (aq pG):=by and_intros
theorem Af(M:Md K mg):Own P w K mg base 3 "_law_two" ["_law_cell","_law_most"] (gh K gZ):=by
 delta gZ
 refine dX (g:=kf) M.e_law_two Rj rfl rfl (by decide) fun f cdv A outer s H E hr=>?_
 delta kf
 exact(aj (aB 2 Rj.nd cG)
 (aj (Ed 3 Rj.nd (N:=["_law_k","_law_letters","_law_cell"]) (js:=[none,some 2,some 0]) fS (by rfl) (jY (by rfl) (by exact M.B.range) (ah (gy ar (aa 1)) au)) (fun _ _ _ _=>(by delta iZ;exact(aG 0 (show(["_law_k","_law_letters","_law_cell"]:List Str).Nodup by decide+kernel)))) (fun _ _ _ _=>(by delta gL;exact(gz (aa 1) (dN (aN (aa 2) (gy ar (aa 0))) ar)))))
 (aj (aB 4 Rj.nd (bO a_))
 (aj (d0 PassesOwn.never (by rfl) (jY (by rfl) (by exact M.B.range) (ah ar au)) (by delta eN;exact(aG 5 Rj.nd))
 (by delta dM;exact(aj (aB 6 Rj.nd (xo (nT M) (ah (aa 0) (ah (aN ar (aa 5)) au))))
 (aj (aB 7 Rj.nd (gW (aa 3) (dY (gy (aa 5) (aa 1))) (dY (aN (aN (gy (aa 5) (aa 1)) ar) (dN (aa 6) (aa 1))))))
 (aj (cf (iq hr.units (dN (e_ (aa 6) ar) ar) ar)
 (am (aB 7 Rj.nd (aN (gW (aa 7) (dY ar) hO) (bO (aF (gz (aa 3) (dN (e_ (aa 6) ar) (gg (by rfl) (by exact M.B.len) (ah (aa 3) au)))) a_)))))
 aT)
 (am (fD (eS 4 (jH (jd rfl (by rfl) (by exact M.B.sorted) (by rfl) (by exact M.B.set) (aa 7)))))))))))
 (am (aI (xo (kO M) (ah (aa 4) au))))))))
theorem Rk:FnScope ["_law_script","_law_names","_law_cord_here","_law_rule_here","_law_side","_law_back","_law_handed","_law_found"] ["_law_script"] (aq sC):=by and_intros
theorem JL{f0:Addr}  (D:Fun K "law" "law" sC f0 fd) (M:Md K mg):FnOk P w K mg base yR 13 f0 fd ["_law_script"] (gh K nE):=by
 delta nE
 refine NI (g:=xP) D Rk rfl rfl (by decide) fun cdv A outer s H E hr=>?_
 delta xP
 exact(aj (aB 1 Rk.nd (gz (bO (aF cG (aF cG a_))) (AR (by rfl) (by exact M.B.int) (ah (tX hr.units (dN (e_ (xo (g7 M) (ah (aa 0) (ah ar au))) ar) ar) ar) au))))
 (aj (aB 2 Rk.nd (xo (sG M) (ah (xo (xS M) (ah (aa 0) (ah ar (ah ar (ah ar au))))) (ah (aa 1) au))))
 (aj (cf (iq hr.units (dN (xo (g7 M) (ah (aa 0) (ah ar au))) ar) ar)
 (aj (aB 3 Rk.nd (xo (xW M) (ah (aa 0) (ah ar (ah (gW cG hO (dY (aN ar (dN (e_ (xo (g7 M) (ah (aa 0) (ah ar au))) ar) ar)))) au)))))
 (aj (cf (rM .gt (gg (by rfl) (by exact M.B.len) (ah (aa 1) au)) ar)
 (am (aB 3 Rk.nd (xo (Af M) (ah (xo (g7 M) (ah (aa 0) (ah ar au))) (ah ar au)))))
 aT)
 (aj (aB 2 Rk.nd (xo (sE M) (ah (aa 3) au)))
 (aj (aB 1 Rk.nd (jH (jd rfl (by rfl) (by exact M.B.sorted) (by rfl) (by exact M.B.set) (jH (aa 3)))))
 (aj (aB 4 Rk.nd (xo (sG M) (ah (xo (jP M) (ah (xo (g7 M) (ah (aa 0) (ah ar au))) au)) (ah (aa 1) au))))
 (aj (aB 5 Rk.nd (xo (iI M) (ah (aa 4) au)))
 (am (aB 2 Rk.nd (aN (aN (aN (aN (aN (aa 4) (gW (aa 2) hO (dY ar))) (aa 4)) (aa 5)) (gW (aa 2) (dY ar) hO)) (aa 5))))))))))
 aT)
 (aj (aB 6 Rk.nd (GL (by rfl) (by exact M.B.list) (aa 2)))
 (aj (aB 7 Rk.nd (xo (qj M) (ah (aa 6) au)))
 (aj (cf (iq hr.units (xo (qi M) (ah (aa 2) au)) (bO a_))
 (am (aI (zJ (tX hr.units (aa 7) cG) (D1 (tX hr.units (aa 6) (aa 2))))))
 aT)
 (aj (cf (B8 (wI (m9 (gT (vt .list (by rfl) (by exact M.B.isinstance) (aa 7) (by rfl) (by exact M.B.list) PyProof.Rows.boot_list))) (wI (pZ hr.units (aa 7) (xo (Ae M) (ah (aa 2) au))) (u_ (pZ hr.units (aa 6) (aa 2))))))
 (am (aI pW))
 aT)
 (aj (cf (rM .gt (Eo (by rfl) (by rfl) (by exact M.B.sum) (ah (Cd (N:=["_law_one"]) (js:=[none]) eD (by rfl) (GN (aa 7)) (fun _ _ _ _=>(by delta jr;exact(aG 0 (show(["_law_one"]:List Str).Nodup by decide+kernel)))) (fun _ _ _ _=>(by delta jt;exact(gg (by rfl) (by exact M.B.len) (ah (aa 0) au))))) au)) (m7 ar (gy ar (AR (by rfl) (by exact M.B.int) (ah (La .gt (CD rfl (by rfl) (by exact M.B.len) (by rfl) (by exact M.B.set) (jH (aa 7))) ar) au)))))
 (am (aI pW))
 aT)
 (am (aI (tX hr.units (xo (qj M) (ah (xo (sE M) (ah (aa 7) au)) au)) (aa 7))))))))))))
end
end Nhk54
namespace Nhk54
open PySem L2 Nh PL
theorem Jn{a b:Prop}(x:a)(y:b):a∧b:=⟨x,y⟩
def MQ:=Jn @fi.eq_1 <|Jn @vx.eq_1 <|Jn @eZ.eq_1 <|Jn @gO.eq_1 <|Jn @gO.eq_2 <|Jn @gO.eq_3 <|Jn @gO.eq_4 <|Jn @gO.eq_5 <|Jn @fO.eq_1 <|Jn @fO.eq_2 <|Jn @fO.eq_3 <|Jn @fO.eq_4 <|Jn @fO.eq_5 <|Jn @fO.eq_6 <|Jn @fO.eq_7 <| @bg.eq_1
def MR:=Jn @bg.eq_2 <|Jn @aC.eq_1 <|Jn @aV.eq_1 <|Jn @fN.eq_1 <|Jn @aZ.eq_1 <|Jn @bS.eq_1 <|Jn @aE.eq_1 <|Jn @PL.settle.eq_1 <|Jn @PL.settle.eq_2 <|Jn @PL.settle.eq_3 <|Jn @Sl.isAl.eq_1 <|Jn @Sl.isAl.eq_2 <|Jn @Sl.isAl.eq_3 <|Jn @Sl.isBr.eq_1 <|Jn @Sl.isBr.eq_2 <| @frz.eq_1
def MS:=Jn @frz.eq_2 <|Jn @frz.eq_3 <|Jn @frz.eq_4 <|Jn @frz.eq_5 <|Jn @frz.eq_6 <|Jn @ae.eq_1 <|Jn @pC.eq_1 <|Jn @ag.eq_1 <|Jn @aQ.eq_1 <|Jn @qB.eq_1 <|Jn @ip.eq_1 <|Jn @cR.eq_1 <|Jn @ef.eq_1 <|Jn @qC.eq_1 <|Jn @iM.eq_1 <| @u9.eq_1
def MU:=Jn @mG.eq_1 <|Jn @mF.eq_1 <|Jn @B7.eq_1 <|Jn @B7.eq_2 <|Jn @hJ.eq_1 <|Jn @yS.eq_1 <|Jn @yS.eq_2 <|Jn @look.eq_1 <|Jn @look.eq_2 <|Jn @dZ.eq_1 <|Jn @dZ.eq_2 <|Jn @Sl.val.eq_1 <|Jn @Sl.val.eq_2 <|Jn @Sl.val.eq_3 <|Jn @Sl.val.eq_4 <| @Sl.val.eq_5
def MV:=Jn @oh.eq_1 <|Jn @oh.eq_2 <|Jn @tB.eq_1 <|Jn @tB.eq_2 <|Jn @tB.eq_3 <|Jn @dW.eq_1 <|Jn @ir.eq_1 <|Jn @qE.eq_1 <|Jn @qE.eq_2 <|Jn @qE.eq_3 <|Jn @qE.eq_4 <|Jn @qE.eq_5 <|Jn @qE.eq_6 <|Jn @qE.eq_7 <|Jn @D0.eq_1 <| @qD.eq_1
def MW:=Jn @iN.eq_1 <|Jn @rE.eq_1 <|Jn @ao.eq_1 <|Jn @af.eq_1 <|Jn @bE.eq_1 <|Jn @aO.eq_1 <|Jn @tD.eq_1 <|Jn @cb.eq_1 <|Jn @bD.eq_1 <|Jn @fB.eq_1 <|Jn @fB.eq_2 <|Jn @fB.eq_3 <|Jn @fB.eq_4 <|Jn @vp.eq_1 <|Jn @vp.eq_2 <| @rF.eq_1
def MX:=Jn @vq.eq_1 <|Jn @vq.eq_2 <|Jn @LW.eq_1 <|Jn @LW.eq_2 <|Jn @LW.eq_3 <|Jn @LW.eq_4 <|Jn @LW.eq_5 <|Jn @LW.eq_6 <|Jn @LW.eq_7 <|Jn @Ty.is.eq_1 <|Jn @Ty.is.eq_2 <|Jn @Ty.is.eq_3 <|Jn @Ty.is.eq_4 <|Jn @Ty.is.eq_5 <|Jn @Ty.is.eq_6 <| @Ty.is.eq_7
def MY:=Jn @Ty.is.eq_8 <|Jn @Ty.is.eq_9 <|Jn @eB.eq_1 <|Jn @bJ.eq_1 <|Jn @m8.eq_1 <|Jn @ak.eq_1 <|Jn @eG.eq_1 <|Jn @GM.eq_1 <|Jn @aK.eq_1 <|Jn @p7.eq_1 <|Jn @gU.eq_1 <|Jn @gU.eq_2 <|Jn @p9.eq_1 <|Jn @p9.eq_2 <|Jn @wL.eq_1 <| @ja.eq_1
def MZ:=Jn @vv.eq_1 <|Jn @dC.eq_1 <|Jn @List.length_cons.{0} <|Jn @List.length_nil.{0} <|Jn @List.map_cons.{0,0} <|Jn @List.map_nil.{0,0} <|Jn @List.replicate.eq_1.{0} <|Jn @List.replicate.eq_2.{0} <|Jn @List.cons_append.{0} <|Jn @List.nil_append.{0} <|Jn @List.getElem?_cons_zero.{0} <|Jn @List.getElem?_cons_succ.{0} <|Jn @List.set_cons_zero.{0} <|Jn @List.set_cons_succ.{0} <|Jn @List.isEmpty_nil.{0} <| @Option.bind_some.{0,0}
def M0:=Jn @Option.map_some.{0,0} <|Jn @Option.map_none.{0,0} <|Jn @Option.any_some.{0} <|Jn @Nat.sub_self <|Jn @Nat.zero_add <|Jn @if_true.{1} <|Jn @if_false.{1} <|Jn @Bool.false_and <|Jn @Bool.true_and <|Jn @Bool.and_true <|Jn @Bool.true_or <|Jn @Bool.or_true <|Jn @Bool.or_false <|Jn @Bool.not_true <|Jn @Bool.not_false <| @Bool.false_eq_true
def Lv:=Jn @decide_true <|Jn @decide_false <|Jn @K9 <|Jn @K_ <|Jn @Ic <|Jn @GO <|Jn @GP <|Jn @GQ <|Jn @List.dropLast_concat.{0} <|Jn @oo <|Jn @jc <|Jn @Ce <|Jn @lB <|Jn @fE.eq_1 <|Jn @fE.eq_2 <| @fE.eq_3
def Lw:=Jn @fE.eq_4 <|Jn @fE.eq_5 <|Jn @frzAll.eq_1 <|Jn @a8.eq_1 <|Jn @fk.eq_1 <|Jn @fk.eq_2 <|Jn @fk.eq_3 <|Jn @Cm.i.eq_1 <|Jn @Cm.i.eq_2 <|Jn @Cm.i.eq_3 <|Jn @Cm.i.eq_4 <|Jn @Cm.s.eq_1 <|Jn @Cm.s.eq_2 <|Jn @Cm.s.eq_3 <|Jn @Cm.s.eq_4 <| @fP.eq_1
def Lx:=Jn @Eh.eq_1 <|Jn @wM.eq_1 <|Jn @F7.eq_1 <|Jn @Ld.eq_1 <|Jn @Ld.eq_2 <|Jn @Ld.eq_3 <|Jn @Ld.eq_4 <|Jn @Ld.eq_5 <|Jn @Ld.eq_6 <|Jn @vB.eq_1 <|Jn @vB.eq_2 <|Jn @vB.eq_3 <|Jn @d4.eq_1 <|Jn @iP <|Jn @AW <| @GW
def Ly:=Jn @Int.cast_ofNat_Int <|Jn @GS.eq_1 <|Jn @GS.eq_2 <|Jn @rQ.eq_1 <|Jn @rQ.eq_2 <|Jn @LZ.eq_1 <| @rK.eq_1
def qK:=Jn MQ <|Jn MR <|Jn MS <|Jn MU <|Jn MV <|Jn MW <|Jn MX <|Jn MY <|Jn MZ <|Jn M0 <|Jn Lv <|Jn Lw <|Jn Lx <|Ly
local macro_rules | `(tactic|simp! [$xs,*])=>`(tactic|simp only[qK,Nat.reduceAdd,Nat.reduceSub,Nat.reduceLT,Nat.reduceLeDiff,tw,$xs,*])
local macro_rules | `(tactic|dsimp! [$xs,*])=>`(tactic|simp only[qK,Nat.reduceAdd,Nat.reduceSub,Nat.reduceLT,Nat.reduceLeDiff,tw,Int.reduceLT,Int.reduceLE,Int.reduceEq,Int.reduceNeg,Int.reduceSub,Int.reduceMul,Int.reduceToNat,Int.reducePow,and_self,$xs,*])
theorem Hj(w:List Nat):(⟨w.toArray⟩:Str).length=w.length:=by show w.toArray.size=_;simp
theorem pL(ns:List Int)(k:Nat):aR [.list (ns.map .int),.int k]=some (.sh (.int (ns.getD k 0))):=by
 simp only[aR,fi,Z4,Z5,Nat.reduceAdd,vx,oG,aC,bS,dW,ag,ae,eZ,eR,List.map_nil,Nat.sub_self,List.replicate,Z9,Z8,Z3,Z2,Sl.isBr,bD,af,ao,Z1,fB,hJ,look,Sl.val,fk,Cm.i,Cm.s,Z0,dZ,aZ,mG,oh,tB,aV,pC,fE,gO,gv]
 by_cases h:k < ns.length
 ·simp[h,jb,fO,fE,gO]
 ·simp[h,List.getElem?_eq_none (Nat.le_of_not_lt h),fO,fE,gO]
theorem nU(cell:Int)(k:Nat)(h:k≤1000000):∃z:Int,b_ [.int cell,.int k]=some (.sh (.int z)):=by
 have a1:∀i:Int,gw i (62089911+2*(k:Int))=true:=fun i=>qS (by omega) (by omega)
 have a2:gw 982451653 (k:Int)=true:=qS (by omega) (by omega)
 have a3:gw 2 (k:Int)=true:=qS (by omega) (by omega)
 have a4:∀i j:Int,gw (i % 4294967291) j=true:=fun i j=>kr (by have:=Int.emod_nonneg i (show(4294967291:Int)≠0 by decide);omega) (by have:=Int.emod_lt_of_pos i (show(0:Int) < 4294967291 by decide);omega)
 have d1:kW 1024=true:=by decide
 simp only[b_,fi,Z4,Z5,Nat.reduceAdd,vx,mz,aC,aE,ag,ae,eZ,eR,List.map_nil,Nat.reduceSub,List.replicate,Z9,Z8,Z2,Sl.isBr,pC,qC,hJ,look,Sl.val,yS,Int.reducePow,Int.reduceNeg,Z0,Int.reduceLE,Int.reduceLT,and_self,Int.reduceToNat,Z1,ef,ip,oh,tB,aQ,Z3,a3,a1,a2,PL.settle,frz,frzAll,Nat.reduceLT,Z7,Z6,aZ,cR,d1,a4,fE,gO,fO,gv]
 exact⟨_,rfl⟩
theorem aD{f g:bX}(h:f E=some (E1,.nx)):aC f g E=g E1:=by
 unfold aC
 rw[h]
 rfl
theorem gP{c:lq}{a b:bX}{r:Option (List Sl×Fl)}(h:c E=some (false,E1))(k:b E1=r):bS c a b E=r:=by
 unfold bS
 rw[h,←k]
 rfl
theorem gM{c:lq}{a b:bX}{r:Option (List Sl×Fl)}(h:c E=some (true,E1))(k:a E1=r):bS c a b E=r:=by
 unfold bS
 rw[h,←k]
 rfl
theorem kP{elt:aY}{r:PyData}{rs:List PyData}(t:tg d E=some E1)(el:elt E1=some (.sh r,E1))(h:bT tg a9 elt ds E1=some rs):bT tg a9 elt (d::ds) E=some (r::rs):=by
 rw[bT,t,Option.bind_some]
 simp only[a9,Z0,el,frz,h,Z1,if_true]
def bZ(a:Nat):PyData:=.str ⟨#[a]⟩
theorem lR:∀w:List Nat,bg (w.map bZ)=true
 |[]=>rfl
 |a::w=>by simp[bg,fO,lR w,bZ]
def az(a:Nat):Prop:=97≤a∧a < 123
theorem fQ{a:Nat}(h:az a):a∈List.range' 97 26:=List.mem_range'_1.mpr ⟨h.1,h.2⟩
theorem aH{c:List PyData→Option Sl}{g:rB}{r:Sl}(h:g E=some (ss,E1))(hl:dZ E1 ss=some ds)(hc:c ds=some r):ak c g E=some (r,E1):=by
 unfold ak
 rw[h,Option.bind_some]
 show(dZ E1 ss).bind _=_
 rw[hl,Option.bind_some,hc]
 rfl
theorem oJ{x:Int}{f:aY}{g:aY}(hf:g E=some (.sh (.int x),E))(h:f E=some (.sh (.int y),E))(ok:gw x y=true):ag ip false g f E=some (.sh (.int (x*y)),E):=by
 simp only[ag,ip,hf,h,Z0,look,Sl.val,ok,gv]
theorem jA{x:Int}{f:aY}{g:aY}(hf:g E=some (.sh (.int x),E))(h:f E=some (.sh (.int y),E)):ag aQ false g f E=some (.sh (.int (x+y)),E):=by
 simp only[ag,aQ,hf,h,Z0,look,Sl.val,gv]
theorem kQ{f:aY}{i:Nat}(h:f E=some (.sh d,E1))(hi:i < E1.length):aE i f E=some (E1.set i (.sh d),.nx):=by
 unfold aE
 rw[h]
 simp only[Z0,PL.settle,hi,if_true]
theorem Ij{a b:lq}{r:Option (Bool×List Sl)}(h:a E=some (false,E1))(k:b E1=r):qD a b E=r:=by
 unfold qD
 rw[h,Option.bind_some]
 exact k
theorem qX(w:List Nat)(a:Nat):(Builtin.Str.occurrences ⟨w.toArray⟩ ⟨#[a]⟩ 0 (⟨w.toArray⟩:Str).length 1).isEmpty= !decide (a∈w):=by
 have h:=PySem.StrLaws.found_one ⟨w.toArray⟩ a
 rw[List.toList_toArray]at h
 rw[←h,Bool.not_not]
def gb(a:Nat):Str:=⟨#[a]⟩
theorem Fc{a b:Nat}(h:gb a=gb b):a=b:=by
 simp[gb]at h;exact h
theorem Hk{a b:Nat}(h:a≤b):vC (gb a) (gb b)=true:=by
 have:[a]≤[b]:=by
  rcases Nat.lt_or_ge a b with k |k
  ·exact List.le_of_lt (List.Lex.rel k)
  ·rw[Nat.le_antisymm h k];exact List.le_refl _
 exact zz4 this
theorem Hl(ks:List Str)(x y:Str):y∈F8 ks x↔y∈ks∨y=x:=by
 unfold F8
 split
 ·rename_i h
  exact⟨.inl,fun z=>z.elim id fun e=>e▸h⟩
 ·simp
theorem C3(h:ks.Nodup)(x:Str):(F8 ks x).Nodup:=by
 unfold F8
 split
 ·exact h
 ·rename_i k
  rw[List.nodup_append]
  refine⟨h,by simp,fun a ha b hb=>?_⟩
  rw[Zaf.mp hb]
  exact fun e=>k (e▸ha)
theorem vX:∀(ss ks:List Str),ks.Nodup→(ss.foldl F8 ks).Nodup∧∀y,y∈ss.foldl F8 ks↔y∈ks∨y∈ss
 |[],ks,h=>⟨h,fun y=>by simp⟩
 |s::ss,ks,h=>by
  obtain⟨a,b⟩:=vX ss (F8 ks s) (C3 h s)
  refine⟨a,fun y=>?_⟩
  rw[List.foldl_cons,b y,Hl,Zap,or_assoc]
theorem C4(ss:List Str):(jC ss).Nodup:=(vX ss [] List.nodup_nil).1
theorem Hm(ss:List Str)(y:Str):y∈jC ss↔y∈ss:=by
 rw[jC,(vX ss [] List.nodup_nil).2 y];simp
def aA(w:List Nat):List Nat:=(List.range' 97 26).filter fun a=>decide (a∈w)
theorem inOrd_mem{w:List Nat}{a:Nat}:a∈aA w↔a∈List.range' 97 26∧a∈w:=by simp[aA]
theorem sH[DecidableEq α]:∀{l m:List α},l.Nodup→m.Nodup→(∀a,a∈l↔a∈m)→l.Perm m
 |[],m,_,_,h=>by
  have:m=[]:=by
   cases m with
   |nil=>rfl
   |cons b m=>exact absurd ((h b).mpr (by simp)) (by simp)
  rw[this]
 |a::l,m,hl,hm,h=>by
  have ha:a∈m:=(h a).mp (by simp)
  have hl':=List.nodup_cons.mp hl
  have p:=List.perm_cons_erase ha
  refine((sH hl'.2 (hm.erase a) fun b=>?_).cons a).trans p.symm
  rw[List.Nodup.mem_erase_iff hm,←h b,Zap]
  exact⟨fun k=>⟨fun e=>hl'.1 (e▸k),.inr k⟩,fun k=>k.2.resolve_left k.1⟩
theorem Ag{w:List Nat}(h:w.Nodup):(w.map gb).Nodup:=by
 rw[List.Nodup,List.pairwise_map]
 exact h.imp fun k e=>k (Fc e)
theorem xX(w:List Nat):(aA w).Nodup:=List.Nodup.sublist List.filter_sublist (List.nodup_range' ..)
theorem vY(w:List Nat):((aA w).map gb).Pairwise fun a b=>vC a b=true:=by
 rw[List.pairwise_map]
 have h:(List.range' 97 26).Pairwise (· < ·):=List.pairwise_lt_range'
 exact(h.sublist List.filter_sublist).imp fun k=>Hk (mY k)
theorem jB{w:List Nat}(hw:∀a∈w,a∈List.range' 97 26):jI (jC (w.map gb))=(aA w).map gb:=by
 refine(List.Perm.eq_of_pairwise (fun _ _ _ _ h k=>rR h k) (vY w) (List.pairwise_mergeSort mh o7 _) ?_).symm
 refine List.Perm.trans ?_ (BM _ vC).symm
 refine sH (Ag (xX w)) (C4 _) fun y=>?_
 rw[Hm,Zay,Zay]
 constructor
 ·rintro⟨a,ha,rfl⟩
  exact⟨a,(inOrd_mem.mp ha).2,rfl⟩
 ·rintro⟨a,ha,rfl⟩
  exact⟨a,inOrd_mem.mpr ⟨hw a ha,ha⟩,rfl⟩
theorem oK{w:List Nat}(hw:∀a∈w,a∈List.range' 97 26):(jC (w.map gb)).length≤26:=by
 rw[←mi,jB hw,c_]
 refine jS (List.length_filter_le _ _) (by simp)
theorem Hn{a:Nat}(h:az a):decide ([a] < (Str.ofString "a").cps.toList)=false:=by
 have e:(Str.ofString "a").cps.toList=[97]:=by decide+kernel
 rw[e]
 refine zz3 fun k=>?_
 have:a < 97:=by
  cases k with
  |rel k=>exact k
  |cons k=>cases k
 exact absurd this (Nat.not_lt.mpr h.1)
theorem Ho{a:Nat}(h:az a):decide ((Str.ofString "z").cps.toList < [a])=false:=by
 have e:(Str.ofString "z").cps.toList=[122]:=by decide+kernel
 rw[e]
 refine zz3 fun k=>?_
 have:122 < a:=by
  cases k with
  |rel k=>exact k
  |cons k=>cases k
 exact absurd this (Nat.not_lt.mpr (Nat.le_of_lt_succ h.2))
theorem Ah{a:Nat}(h:az a):ji [.str ⟨#[a]⟩]=some (.sh (.bool true)):=by
 have l:(⟨#[a]⟩:Str).length=1:=rfl
 have t:(#[a]:Array Nat).toList=[a]:=rfl
 have lo:=Hn h
 have hi:=Ho h
 dsimp! [ji,ml,l,t,lo,hi]
theorem uD(x0:Sl):∀(w:List Nat) (a:Sl),(∀y∈w,az y)→∃a',aX iw iy (w.map bZ) [x0,a]=some ([x0,a'],.nx)
 |[],a,_=>⟨a,rfl⟩
 |y::w,a,h=>by
  have n:=Ah (h y (g_ ..))
  have e:(iw (bZ y) [x0,a]).bind iy=some ([x0,.sh (bZ y)],.nx):=by
   simp! [iw,iy,bZ,n]
  obtain⟨a',ih⟩:=uD x0 w (.sh (bZ y)) fun z hz=>h z (gN _ hz)
  refine⟨a',?_⟩
  rw[eR,aX,e]
  exact ih
theorem Bj(w:List Nat):jL ⟨w.toArray⟩=w.map bZ:=by simp[jL,bZ]
theorem Bk(w:List Nat):lj ⟨w.toArray⟩=w.map gb:=by simp[lj,gb]
theorem oM:∀(w:List Nat),kX (w.map bZ)=some (w.map gb)
 |[]=>rfl
 |a::w=>by simp only[eR,bZ,kX];rw[oM w];rfl
theorem sI(w:List Nat):iE ((w.map gb).map PyData.str)=some (w.map gb):=by
 induction w with
 |nil=>rfl
 |cons a w ih=>simp only[eR,iE,ih,Z1]
theorem qk:∀(w:List Nat),iE (w.map bZ)=some (w.map gb)
 |[]=>rfl
 |a::w=>by simp only[eR,bZ,iE];rw[qk w];rfl
theorem vZ(w:List Nat):((w.map gb).map (·.length)).sum+(w.map gb).length*(Str.ofString "").length=w.length:=by
 have:(Str.ofString "").length=0:=rfl
 rw[this,Nat.mul_zero,Nat.add_zero]
 induction w with
 |nil=>rfl
 |cons a w ih=>simp only[eR,List.sum_cons,ih,Z4];show 1+_=_;omega
theorem sJ:∀(w:List Nat),Txt.join "" (w.map gb)=⟨w.toArray⟩:=by
 intro w
 show Builtin.Str.glued "" _=_
 rw[StrLaws.glued_eq_join]
 induction w with
 |nil=>rfl
 |cons a w ih=>
  cases w with
  |nil=>rfl
  |cons b w=>
   have e:Str.join "" ((a::b::w).map gb)=(⟨#[a]⟩:Str)++""++Str.join "" ((b::w).map gb):=rfl
   rw[e,ih]
   show(⟨(#[a]++(Str.ofString "").cps)++(b::w).toArray⟩:Str)=_
   rw[show(Str.ofString "").cps=#[] by decide+kernel]
   simp
theorem mB(w:List Nat):(aA w).length≤1000000:=jS (List.length_filter_le _ _) (by simp)
theorem pM{w:List Nat}(h:∀y∈w,az y)(hl:w.length≤3900):eT [.str ⟨w.toArray⟩]=some (.sh (.str ⟨(aA w).toArray⟩)):=by
 obtain⟨a,e⟩:=uD (.sh (.str ⟨w.toArray⟩)) w .no h
 have d:=jB fun y hy=>fQ (h y hy)
 have d2:(w.map gb).length < 4000∧(jC (w.map gb)).length < 64:=⟨by rw[c_];omega,yX (oK fun y hy=>fQ (h y hy)) (by decide)⟩
 have l:=vZ (aA w)
 have l2:=mB w
 simp! [eT,oF,Bj,e,b7,Bk,d2,and_self,d,rO,sI,l,l2,sJ]
theorem C5:(Str.ofString "abcdefghijklmnopqrstuvwxyz")=(⟨(List.range' 97 26).toArray⟩:Str):=by decide+kernel
theorem JM(w:List Nat)(a:Nat):Ld (.str ⟨#[a]⟩) (.str ⟨w.toArray⟩)=some (decide (a∈w)):=by
 show some (!(Builtin.Str.occurrences ⟨w.toArray⟩ ⟨#[a]⟩ 0 (⟨w.toArray⟩:Str).length 1).isEmpty)=_
 rw[qX,Bool.not_not]
theorem Lz{f g:aY}{d1 d2:PyData}{b:Bool}(hf:f E=some (.sh d1,E))(hg:g E=some (.sh d2,E))(hd:Ld d1 d2=some b):dW (ag (F7 false) false f g) E=some (b,E):=by
 simp only[dW,ag,F7,hJ,hf,hg,hd,Z0,look,Sl.val,Z1,gv]
theorem Hq(w:List Nat)(n:Nat)(c:Nat)(hc:c=97+n)(p:Int)(hp:p=2 ^ n)(a:Sl):(gB (.str ⟨#[c]⟩) [.sh (.str ⟨w.toArray⟩),.sh (.int (NH.eI w n)),.sh (.int p),a]).bind gC=some ([.sh (.str ⟨w.toArray⟩),.sh (.int (NH.eI w (n+1))),.sh (.int (p*2)),.sh (.str ⟨#[c]⟩)],.nx):=by
 have i1:=JM w c
 have ok:gw p 2=true:=qS (by decide) (by decide)
 have b:(NH.eI w (n+1):Int)=if c∈w then (NH.eI w n:Int)+p else (NH.eI w n:Int):=by
  rw[NH.eI,hc,hp]
  split
  ·push_cast;rfl
  ·simp
 generalize (NH.eI w (n+1):Int)=B1 at b ⊢
 generalize (NH.eI w n:Int)=B0 at b ⊢
 have tg:gB (.str ⟨#[c]⟩) [.sh (.str ⟨w.toArray⟩),.sh (.int B0),.sh (.int p),a]=some [.sh (.str ⟨w.toArray⟩),.sh (.int B0),.sh (.int p),.sh (.str ⟨#[c]⟩)]:=rfl
 have t1:dW (ag (F7 false) false (ae 3) (ae 0)) [.sh (.str ⟨w.toArray⟩),.sh (.int B0),.sh (.int p),.sh (.str ⟨#[c]⟩)]=some (decide (c∈w),[.sh (.str ⟨w.toArray⟩),.sh (.int B0),.sh (.int p),.sh (.str ⟨#[c]⟩)]):=Lz rfl rfl i1
 have s2:∀x:Int,aE 2 (ag ip false (ae 2) (pC (.int 2))) [.sh (.str ⟨w.toArray⟩),.sh (.int x),.sh (.int p),.sh (.str ⟨#[c]⟩)]=some ([.sh (.str ⟨w.toArray⟩),.sh (.int x),.sh (.int (p*2)),.sh (.str ⟨#[c]⟩)],.nx):=fun x=>kQ (oJ (g:=ae 2) (f:=pC (.int 2)) rfl rfl ok) (show 2 < 4 by decide)
 rw[tg,Option.bind_some,gC]
 by_cases h:c∈w
 ·rw[if_pos h]at b
  rw[zz4 h]at t1
  have s1:aE 1 (ag aQ false (ae 1) (ae 2)) [.sh (.str ⟨w.toArray⟩),.sh (.int B0),.sh (.int p),.sh (.str ⟨#[c]⟩)]=some ([.sh (.str ⟨w.toArray⟩),.sh (.int B1),.sh (.int p),.sh (.str ⟨#[c]⟩)],.nx):=by
   rw[b]
   exact kQ (jA (g:=ae 1) (f:=ae 2) rfl rfl) (show 1 < 4 by decide)
  rw[aD (gM t1 s1)]
  exact s2 B1
 ·rw[if_neg h]at b
  rw[zz3 h]at t1
  rw[aD (gP (b:=aV) t1 rfl),b]
  exact s2 B0
theorem Bl(w:List Nat):∀(k n:Nat) (a:Sl),n+k=26→∃a' b',aX gB gC ((List.range' (97+n) k).map fun c=>.str ⟨#[c]⟩) [.sh (.str ⟨w.toArray⟩),.sh (.int (NH.eI w n)),.sh (.int (2 ^ n)),a]=some ([.sh (.str ⟨w.toArray⟩),.sh (.int (NH.b8 w)),b',a'],.nx)
 | 0,n,a,h=>⟨a,.sh (.int (2 ^ n)),by rw[show n=26 by omega];rfl⟩
 |k+1,n,a,h=>by
  have s:=Hq w n (97+n) rfl (2 ^ n) rfl a
  rw[(Int.pow_succ 2 n).symm]at s
  obtain⟨a',b',e⟩:=Bl w k (n+1) (.sh (.str ⟨#[97+n]⟩)) (by omega)
  refine⟨a',b',?_⟩
  rw[List.range'_succ,eR,aX,s]
  exact e
theorem nV(w:List Nat):cS [.str ⟨w.toArray⟩]=some (.sh (.int (NH.b8 w))):=by
 obtain⟨a,b,e⟩:=Bl w 26 0 .no rfl
 have z0:((NH.eI w 0:Nat):Int)=0:=rfl
 have z1:(2:Int) ^ 0=1:=rfl
 rw[z0,z1,Nat.add_zero]at e
 have sg:jL (⟨(List.range' 97 26).toArray⟩:Str)=(List.range' 97 26).map fun c=>.str ⟨#[c]⟩:=by simp[jL]
 simp! [cS,mr,C5,sg,e]
theorem Ai(a b:Nat):Builtin.bitAnd (a:Int) (b:Int)=((a &&& b:Nat):Int):=by
 simp[Builtin.bitAnd]
theorem Fd{f g:aY}{x y:Nat}(hf:f E=some (.sh (.int x),E))(hg:g E=some (.sh (.int y),E)):ag wM false f g E=some (.sh (.int ((x &&& y:Nat):Int)),E):=by
 simp only[ag,wM,hJ,yS,hf,hg,Z0,look,Sl.val,Z1,Ai,gv]
theorem xY{f g:aY}{x:Int}(hf:f E=some (.sh (.int x),E))(hg:g E=some (.sh (.int y),E)):dW (ag iM false f g) E=some (decide (x=y),E):=by
 simp only[dW,ag,iM,hJ,hf,hg,Z0,look,Sl.val,Z1,iP,gv]
def oN(n:Nat):PyData:=.int n
theorem Bm(x1:Sl)(b:Nat):∀(ps:List Nat) (a:Sl),∃E,aX bR bq (ps.map oN) [.sh (.int b),x1,a]=some (E,if ps.any (fun p=>decide (p &&& b=p))then .rt (.sh (.bool true))else .nx)
 |[],a=>⟨_,rfl⟩
 |p::ps,a=>by
  have t1:dW (ag iM false (ag wM false (ae 2) (ae 0)) (ae 2)) [.sh (.int b),x1,.sh (.int p)]=some (decide (((p &&& b:Nat):Int)=(p:Int)),[.sh (.int b),x1,.sh (.int p)]):=xY (Fd (f:=ae 2) (g:=ae 0) (x:=p) (y:=b) rfl rfl) rfl
  have tg:bR (oN p) [.sh (.int b),x1,a]=some [.sh (.int b),x1,.sh (.int p)]:=rfl
  by_cases h:p &&& b=p
  ·rw[zz4 (by rw[h])]at t1
   refine⟨[.sh (.int b),x1,.sh (.int p)],?_⟩
   have st:(bR (oN p) [.sh (.int b),x1,a]).bind bq=some ([.sh (.int b),x1,.sh (.int p)],.rt (.sh (.bool true))):=by
    rw[tg,Option.bind_some,bq]
    exact gM t1 rfl
   rw[eR,aX,st,List.any_cons,zz4 h]
   rfl
  ·rw[zz3 (by omega)]at t1
   obtain⟨E,ih⟩:=Bm x1 b ps (.sh (.int p))
   refine⟨E,?_⟩
   have st:(bR (oN p) [.sh (.int b),x1,a]).bind bq=some ([.sh (.int b),x1,.sh (.int p)],.nx):=by
    rw[tg,Option.bind_some,bq]
    exact gP t1 rfl
   rw[eR,aX,st,List.any_cons,zz3 h,Bool.false_or]
   exact ih
theorem Hr(b:Nat)(ps:List Nat):ba [.int b,.list (ps.map oN)]=some (.sh (.bool (ps.any fun p=>decide (p &&& b=p)))):=by
 obtain⟨E,e⟩:=Bm (.sh (.list (ps.map oN))) b ps .no
 cases h:ps.any (fun p=>decide (p &&& b=p))with
 |true=>
  rw[h]at e
  simp only[if_true]at e
  simp! [ba,d7,e]
 |false=>
  rw[h]at e
  simp only[gv]at e
  simp! [ba,d7,e]
theorem xZ(x1:Sl)(b:Nat):∀(ps:List Nat) (a:Sl),∃E,aX dg cH (ps.map oN) [.sh (.int b),x1,a]=some (E,if ps.all (fun p=> !decide (p &&& b=0))then .nx else .rt (.sh (.bool false)))
 |[],a=>⟨_,rfl⟩
 |p::ps,a=>by
  have t1:dW (ag iM false (ag wM false (ae 2) (ae 0)) (pC (.int 0))) [.sh (.int b),x1,.sh (.int p)]=some (decide (((p &&& b:Nat):Int)=0),[.sh (.int b),x1,.sh (.int p)]):=xY (Fd (f:=ae 2) (g:=ae 0) (x:=p) (y:=b) rfl rfl) rfl
  have tg:dg (oN p) [.sh (.int b),x1,a]=some [.sh (.int b),x1,.sh (.int p)]:=rfl
  by_cases h:p &&& b=0
  ·rw[zz4 (by rw[h];rfl)]at t1
   refine⟨[.sh (.int b),x1,.sh (.int p)],?_⟩
   have st:(dg (oN p) [.sh (.int b),x1,a]).bind cH=some ([.sh (.int b),x1,.sh (.int p)],.rt (.sh (.bool false))):=by
    rw[tg,Option.bind_some,cH]
    exact gM t1 rfl
   rw[eR,aX,st,List.all_cons,zz4 h]
   rfl
  ·rw[zz3 (by omega)]at t1
   obtain⟨E,ih⟩:=xZ x1 b ps (.sh (.int p))
   refine⟨E,?_⟩
   have st:(dg (oN p) [.sh (.int b),x1,a]).bind cH=some ([.sh (.int b),x1,.sh (.int p)],.nx):=by
    rw[tg,Option.bind_some,cH]
    exact gP t1 rfl
   rw[eR,aX,st,List.all_cons,zz3 h,Bool.not_false,Bool.true_and]
   exact ih
theorem Fe(b:Nat)(ps:List Nat):dP [.int b,.list (ps.map oN)]=some (.sh (.bool (ps.all fun p=> !decide (p &&& b=0)))):=by
 obtain⟨E,e⟩:=xZ (.sh (.list (ps.map oN))) b ps .no
 cases h:ps.all (fun p=> !decide (p &&& b=0))with
 |true=>
  rw[h]at e
  simp only[if_true]at e
  simp! [dP,gD,e]
 |false=>
  rw[h]at e
  simp only[gv]at e
  simp! [dP,gD,e]
def ai(w:List Nat):PyData:=.str ⟨w.toArray⟩
def qL(w:List Nat):List (List Nat):=w.foldl (fun acc a=>acc++acc.map (· ++[a])) [[]]
theorem b9(l:List (List Nat)):bg (l.map ai)=true:=by
 induction l with
 |nil=>rfl
 |cons a l ih=>show(fO (ai a)&&bg (l.map ai))=true;rw[ih];rfl
theorem JN(u v:List Nat):(⟨u.toArray⟩:Str)++(⟨v.toArray⟩:Str)=⟨(u++v).toArray⟩:=by
 show(⟨u.toArray++v.toArray⟩:Str)=_
 simp
theorem kR(w:List Nat):(⟨w.toArray⟩:Str).length=w.length:=by show w.toArray.size=_;simp
theorem Ff(a:Nat):∀(l:List (List Nat)) (x0:Sl),(∀u∈l,u.length≤1000)→bT ii a9 fY (l.map ai) [x0,.sh (.str ⟨#[a]⟩)]=some ((l.map (· ++[a])).map ai)
 |[],x0,_=>rfl
 |u::l,x0,h=>by
  have hu:=h u (g_ ..)
  have ap:(⟨u.toArray⟩:Str)++(⟨#[a]⟩:Str)=⟨(u++[a]).toArray⟩:=JN u [a]
  have l1:(⟨#[a]⟩:Str).length=1:=rfl
  have lb:u.length+1≤1000000:=by omega
  have e:ii (ai u) [x0,.sh (.str ⟨#[a]⟩)]=some [.sh (.str ⟨u.toArray⟩),.sh (.str ⟨#[a]⟩)]:=rfl
  have e2:fY [.sh (.str ⟨u.toArray⟩),.sh (.str ⟨#[a]⟩)]=some (.sh (.str ⟨(u++[a]).toArray⟩),[.sh (.str ⟨u.toArray⟩),.sh (.str ⟨#[a]⟩)]):=by
   simp! [fY,kR,l1,lb,ap]
  rw[eR,bT,e,Option.bind_some]
  simp! [a9,e2,Ff a l _ fun v hv=>h v (gN _ hv)]
  rfl
theorem Aj(x0:Sl):∀(w:List Nat) (l:List (List Nat)) (n:Nat) (a:Sl),l.length*2 ^ w.length≤100000→n+w.length≤1000→(∀u∈l,u.length≤n)→∃a',aX dR dS (w.map fun c=>.str ⟨#[c]⟩) [x0,.ow (l.map ai),a]=some ([x0,.ow ((w.foldl (fun acc a=>acc++acc.map (· ++[a])) l).map ai),a'],.nx)
 |[],l,n,a,_,_,_=>⟨a,rfl⟩
 |c::w,l,n,a,hb,hn,hl=>by
  have p1:1≤2 ^ w.length:=Nat.one_le_two_pow
  have lle:l.length≤100000:=by
   rw[List.length_cons,Nat.pow_succ]at hb
   have:l.length*1≤l.length*(2 ^ w.length*2):=Nat.mul_le_mul_left _ (by omega)
   omega
  have k:=Ff c l .no fun u hu=>by have:=hl u hu;simp at hn;omega
  have lb:(l.map (· ++[c])).length≤1000000:=by simp;omega
  have lb2:l.length+(l.map (· ++[c])).length≤1000000:=by simp;omega
  have fl:=b9 (l.map (· ++[c]))
  have lb3:l.length≤1000000:=by omega
  have lb4:l.length+l.length≤1000000:=by omega
  have st:(dR (.str ⟨#[c]⟩) [x0,.ow (l.map ai),a]).bind dS=some ([x0,.ow ((l++l.map (· ++[c])).map ai),.sh (.str ⟨#[c]⟩)],.nx):=by
   simp only[dR,dS,gV,p_,aS,qK,Nat.reduceAdd,Nat.reduceSub,Nat.reduceLT,Nat.reduceLeDiff,k,fl,c_,lb3,lb4,←tw]
  obtain⟨a',e⟩:=Aj x0 w (l++l.map (· ++[c])) (n+1) (.sh (.str ⟨#[c]⟩)) (by
   rw[iK,c_,←Nat.two_mul,Nat.mul_assoc]
   rw[List.length_cons,Nat.pow_succ]at hb
   have e1:2*(l.length*2 ^ w.length)=l.length*(2 ^ w.length*2):=by rw[Nat.mul_comm 2,Nat.mul_assoc]
   omega) (by simp at hn;omega) (fun u hu=>by
    rcases Zai.mp hu with q |q
    ·have:=hl u q;omega
    ·obtain⟨v,hv,rfl⟩:=Zay.mp q
     have:=hl v hv
     simp;omega)
  refine⟨a',?_⟩
  rw[eR,aX,st]
  exact e
theorem Fg(w:List Nat)(hw:w.length≤10):bG [.str ⟨w.toArray⟩]=some (.ow ((qL w).map ai)):=by
 have p:2 ^ w.length≤2 ^ 10:=Nat.pow_le_pow_right (by decide) hw
 obtain⟨a,e⟩:=Aj (.sh (.str ⟨w.toArray⟩)) w [[]] 0 .no (by simp;omega) (by omega) (fun u hu=>by rw[Zaf.mp hu];simp)
 have e0:[PyData.str ""]=([[]]:List (List Nat)).map ai:=rfl
 have sg:jL (⟨w.toArray⟩:Str)=w.map fun c=>.str ⟨#[c]⟩:=by simp[jL]
 have fl:=b9 (qL w)
 unfold qL at fl ⊢
 have s1:aE 1 (cb (aO (pC (.str "")) bE)) [.sh (.str ⟨w.toArray⟩),.no,.no]=some ([.sh (.str ⟨w.toArray⟩),.ow (([[]]:List (List Nat)).map ai),.no],.nx):=by
  rw[←e0]
  simp! [if_true]
 have it:∀y:Sl,a8 (ae 0) [.sh (.str ⟨w.toArray⟩),y,.no]=some (w.map fun c=>.str ⟨#[c]⟩,[.sh (.str ⟨w.toArray⟩),y,.no]):=fun y=>by
  simp! [sg]
 have fo:dC (a8 (ae 0)) dR dS [.sh (.str ⟨w.toArray⟩),.ow (([[]]:List (List Nat)).map ai),.no]=some ([.sh (.str ⟨w.toArray⟩),.ow ((w.foldl (fun acc a=>acc++acc.map (· ++[a])) [[]]).map ai),a],.nx):=by
  unfold dC
  rw[it,Option.bind_some]
  exact e
 have g:bG [.str ⟨w.toArray⟩]=(gk [.sh (.str ⟨w.toArray⟩),.no,.no]).bind fun a=>match a.2 with |.rt r=>fE r |.nx=>some (.sh .none) |_=>none:=rfl
 rw[g,gk,aD s1,aD fo]
 simp! [fl]
open NhFam in
theorem Bo(w:List Nat):NhSG.kw ⟨w.toArray⟩=key w:=by
 show(((⟨w.toArray⟩:Str).length:Int),w.toArray.toList)=((w.length:Int),w)
 rw[kR]
theorem sK:∀F:List (List Nat),kX (F.map ai)=some (F.map fun w=>(⟨w.toArray⟩:Str))
 |[]=>rfl
 |w::F=>by
  show(kX (F.map ai)).map ((⟨w.toArray⟩:Str):: ·)=_
  rw[sK F]
  rfl
theorem Fh(F:List (List Nat)):NhSG.mI (F.map fun w=>(⟨w.toArray⟩:Str))=(NhFam.jK F).map fun w=>(⟨w.toArray⟩:Str):=by
 refine(NhSG.uq ((BM F _).map _) ?_).symm
 rw[List.pairwise_map]
 exact(NhFam.uz F).imp fun {a b} h=>by
  unfold NhSG.wl
  rw[Bo,Bo]
  have:NhSG.iQ (NhFam.key b) (NhFam.key a)=false:=by simpa[NhFam.lH]using h
  rw[this];rfl
theorem Hs(F:List (List Nat)):(F.map fun w=>(⟨w.toArray⟩:Str)).map PyData.str=F.map ai:=by rw[List.map_map];rfl
def Fit(F:List (List Nat)):Prop:=F.length < 1100∧∀w∈F,NH.sf w∧w.length≤1000
theorem Fit.chk{F:List (List Nat)}(h:Fit F):(decide ((F.map fun w=>(⟨w.toArray⟩:Str)).length < 65536)&&(F.map fun w=>(⟨w.toArray⟩:Str)).all fun z=>decide (z.length≤1000))=true:=by
 simp only[yQ,decide_eq_true_eq,List.all_eq_true,c_]
 refine⟨Nat.lt_trans h.1 (by decide),fun z hz=>?_⟩
 obtain⟨w,hw,rfl⟩:=Zay.mp hz
 rw[kR]
 exact(h.2 w hw).2
theorem tL{F:List (List Nat)}(h:Fit F):bF [.list (F.map ai)]=some (.ow ((NhFam.jK F).map ai)):=by
 have a:vT (ae 0) [.sh (.list (F.map ai))]=some (.ow ((NhFam.jK F).map ai),[.sh (.list (F.map ai))]):=by
  unfold vT
  simp only[ae,Z2,Z0,look,Sl.val,sK,h.chk,if_true,Fh,Hs]
 have fl:=b9 (NhFam.jK F)
 simp only[bF,gd,fi,vx,eZ,aZ,a,Z0,Z1,fE,gO,fl,Z4,Z5,Nat.sub_self,List.replicate,eR,List.map_nil,oS,Nat.reduceAdd,gv]
def cr(w:List Nat):PyData:=oN (NH.b8 w)
theorem C6(l:List (List Nat)):bg (l.map cr)=true:=by
 induction l with
 |nil=>rfl
 |cons a l ih=>show(fO (cr a)&&bg (l.map cr))=true;rw[ih];rfl
theorem x_(K:List (List Nat)):K.map cr=(K.map NH.b8).map oN:=by rw[List.map_map];rfl
theorem Fi{K:List (List Nat)}(h:∀k∈K,NH.sf k)(w:List Nat):(K.map NH.b8).any (fun p=>decide (p &&& NH.b8 w=p))=K.any (fun k=>decide (NhFam.le k w)):=by
 induction K with
 |nil=>rfl
 |cons k K ih=>
  rw[eR,List.any_cons,List.any_cons,ih fun k hk=>h k (gN _ hk)]
  congr 1
  exact decide_eq_decide.mpr (NH.CO (h k (g_ ..)))
theorem sL(x0:Sl):∀(S K:List (List Nat)) (a b:Sl),(∀w∈S,NH.sf w)→(∀w∈K,NH.sf w)→K.length+S.length≤2000→∃y a' b',aX dQ cK (S.map ai) [x0,.ow (K.map ai),.ow (K.map cr),a,b]=some ([x0,.ow ((NhFam.dE K S).map ai),y,a',b'],.nx)
 |[],K,a,b,_,_,_=>⟨_,a,b,rfl⟩
 |w::S,K,a,b,hS,hK,hl=>by
  have tg:dQ (ai w) [x0,.ow (K.map ai),.ow (K.map cr),a,b]=some [x0,.ow (K.map ai),.ow (K.map cr),.sh (ai w),b]:=rfl
  have c1:ak cS (af false (ae 3) ao) [x0,.ow (K.map ai),.ow (K.map cr),.sh (ai w),b]=some (.sh (.int (NH.b8 w)),[x0,.ow (K.map ai),.ow (K.map cr),.sh (ai w),b]):=aH (ss:=[.sh (ai w)]) rfl rfl (nV w)
  have s1:aE 4 (ak cS (af false (ae 3) ao)) [x0,.ow (K.map ai),.ow (K.map cr),.sh (ai w),b]=some ([x0,.ow (K.map ai),.ow (K.map cr),.sh (ai w),.sh (.int (NH.b8 w))],.nx):=kQ c1 (show 4 < 5 by decide)
  have pp:=Hr (NH.b8 w) (K.map NH.b8)
  rw[←x_,Fi hK w]at pp
  have c2:ir (ak ba (af false (ae 4) (af false (ae 2) ao))) [x0,.ow (K.map ai),.ow (K.map cr),.sh (ai w),.sh (.int (NH.b8 w))]=some (K.any (fun k=>decide (NhFam.le k w)),[x0,.ow (K.map ai),.ow (K.map cr),.sh (ai w),.sh (.int (NH.b8 w))]):=by
   have c3:ak ba (af false (ae 4) (af false (ae 2) ao)) [x0,.ow (K.map ai),.ow (K.map cr),.sh (ai w),.sh (.int (NH.b8 w))]=some (.sh (.bool (K.any (fun k=>decide (NhFam.le k w)))),[x0,.ow (K.map ai),.ow (K.map cr),.sh (ai w),.sh (.int (NH.b8 w))]):=aH (ss:=[.sh (.int (NH.b8 w)),.al 2]) rfl rfl pp
   simp only[ir,c3,Z0,look,Sl.val,qE,Z1]
  by_cases h:K.any (fun k=>decide (NhFam.le k w))=true
  ·rw[h]at c2
   have st:(dQ (ai w) [x0,.ow (K.map ai),.ow (K.map cr),a,b]).bind cK=some ([x0,.ow (K.map ai),.ow (K.map cr),.sh (ai w),.sh (.int (NH.b8 w))],.nx):=by
    rw[tg,Option.bind_some,cK,aD s1]
    refine gP ?_ rfl
    simp only[iN,c2,Z1,Bool.not_true]
   obtain⟨y,a',b',e⟩:=sL x0 S K (.sh (ai w)) (.sh (.int (NH.b8 w))) (fun v hv=>hS v (gN _ hv)) hK (by simp at hl;omega)
   refine⟨y,a',b',?_⟩
   rw[eR,aX,st,NhFam.dE,if_pos h]
   exact e
  ·have h':K.any (fun k=>decide (NhFam.le k w))=false:=by simpa using h
   rw[h']at c2
   have b1:K.length < 1000000:=by simp at hl;omega
   have st:(dQ (ai w) [x0,.ow (K.map ai),.ow (K.map cr),a,b]).bind cK=some ([x0,.ow ((K++[w]).map ai),.ow ((K++[w]).map cr),.sh (ai w),.sh (.int (NH.b8 w))],.nx):=by
    rw[tg,Option.bind_some,cK,aD s1]
    have n2:iN (ir (ak ba (af false (ae 4) (af false (ae 2) ao)))) [x0,.ow (K.map ai),.ow (K.map cr),.sh (ai w),.sh (.int (NH.b8 w))]=some (true,[x0,.ow (K.map ai),.ow (K.map cr),.sh (ai w),.sh (.int (NH.b8 w))]):=by
     simp only[iN,c2,Z1,Bool.not_false]
    refine gM n2 ?_
    have a1:fN (eG 2 (ae 4)) [x0,.ow (K.map ai),.ow (K.map cr),.sh (ai w),.sh (.int (NH.b8 w))]=some ([x0,.ow (K.map ai),.ow ((K++[w]).map cr),.sh (ai w),.sh (.int (NH.b8 w))],.nx):=by
     simp only[qK,Nat.reduceAdd,Nat.reduceSub,Nat.reduceLT,Nat.reduceLeDiff,c_,b1,tw]
     rfl
    rw[aD a1]
    simp only[qK,Nat.reduceAdd,Nat.reduceSub,Nat.reduceLT,Nat.reduceLeDiff,c_,b1,tw]
   obtain⟨y,a',b',e⟩:=sL x0 S (K++[w]) (.sh (ai w)) (.sh (.int (NH.b8 w))) (fun v hv=>hS v (gN _ hv)) (fun v hv=>by
    rcases Zai.mp hv with q |q
    ·exact hK v q
    ·rw[Zaf.mp q];exact hS w (g_ ..)) (by simp at hl ⊢;omega)
   refine⟨y,a',b',?_⟩
   rw[eR,aX,st,NhFam.dE,if_neg h]
   exact e
theorem lS{F:List (List Nat)}(h:Fit F):cL [.list (F.map ai)]=some (.ow ((NhFam.aJ F).map ai)):=by
 obtain⟨y,a,b,e⟩:=sL (.sh (.list (F.map ai))) (NhFam.jK F) [] .no .no (fun w hw=>(h.2 w (NhFam.sortT_mem.mp hw)).1) (fun w hw=>by cases hw) (by
  have:(NhFam.jK F).length=F.length:=(BM F _).length_eq
  have:=h.1
  simp;omega)
 have it:a8 (ak bF (af false (ae 0) ao)) [.sh (.list (F.map ai)),.ow [],.ow [],.no,.no]=some ((NhFam.jK F).map ai,[.sh (.list (F.map ai)),.ow [],.ow [],.no,.no]):=by
  have c:ak bF (af false (ae 0) ao) [.sh (.list (F.map ai)),.ow [],.ow [],.no,.no]=some (.ow ((NhFam.jK F).map ai),[.sh (.list (F.map ai)),.ow [],.ow [],.no,.no]):=aH (ss:=[.sh (.list (F.map ai))]) rfl rfl (tL h)
  unfold a8
  rw[c]
  rfl
 have fo:dC (a8 (ak bF (af false (ae 0) ao))) dQ cK [.sh (.list (F.map ai)),.ow [],.ow [],.no,.no]=some ([.sh (.list (F.map ai)),.ow ((NhFam.aJ F).map ai),y,a,b],.nx):=by
  unfold dC
  rw[it,Option.bind_some]
  exact e
 have g:cL [.list (F.map ai)]=(jk [.sh (.list (F.map ai)),.no,.no,.no,.no]).bind fun a=>match a.2 with |.rt r=>fE r |.nx=>some (.sh .none) |_=>none:=rfl
 have s1:aE 1 (cb bE) [.sh (.list (F.map ai)),.no,.no,.no,.no]=some ([.sh (.list (F.map ai)),.ow [],.no,.no,.no],.nx):=by simp! [if_true]
 have s2:aE 2 (cb bE) [.sh (.list (F.map ai)),.ow [],.no,.no,.no]=some ([.sh (.list (F.map ai)),.ow [],.ow [],.no,.no],.nx):=by simp! [if_true]
 have fl:=b9 (NhFam.aJ F)
 rw[g,jk,aD s1,aD s2,aD fo]
 simp! [fl]
def yW(w:List Nat):Str:=⟨w.toArray⟩
theorem bp(w:List Nat):NhFam.Srt (aA w):=List.Pairwise.sublist List.filter_sublist (List.pairwise_lt_range' ..)
theorem Fj{w:List Nat}(h:NhFam.Srt w)(a:∀y∈w,az y):aA w=w:=
 (bp w).ext h (fun x hx=>(inOrd_mem.mp hx).2) fun x hx=>inOrd_mem.mpr ⟨fQ (a x hx),hx⟩
theorem Bp:∀F:List (List Nat),Txt.join "" (F.map yW)=⟨F.flatten.toArray⟩:=by
 intro F
 show Builtin.Str.glued "" _=_
 rw[StrLaws.glued_eq_join]
 induction F with
 |nil=>rfl
 |cons a F ih=>
  cases F with
  |nil=>simp[Str.join,yW]
  |cons b F=>
   have e:Str.join "" ((a::b::F).map yW)=(yW a)++""++Str.join "" ((b::F).map yW):=rfl
   rw[e,ih]
   show(⟨(a.toArray++(Str.ofString "").cps)++(b::F).flatten.toArray⟩:Str)=_
   rw[show(Str.ofString "").cps=#[] by decide+kernel]
   simp
theorem pN:∀F:List (List Nat),iE (F.map ai)=some (F.map yW)
 |[]=>rfl
 |w::F=>by
  show(iE (F.map ai)).map (yW w:: ·)=_
  rw[pN F]
  rfl
theorem yA:∀F:List (List Nat),((F.map yW).map (·.length)).sum+(F.map yW).length*(Str.ofString "").length=F.flatten.length:=by
 intro F
 have:(Str.ofString "").length=0:=rfl
 rw[this,Nat.mul_zero,Nat.add_zero]
 induction F with
 |nil=>rfl
 |cons a F ih=>
  simp only[eR,List.sum_cons,ih,List.flatten_cons,iK]
  rw[show(yW a).length=a.length from kR a]
theorem mR{w:List Nat}(h:w.length≤10):cM [ai w]=some (.sh .none):=by
 have l:=kR w
 have lt:¬((w.length:Int) > 10):=by omega
 have lb:w.length≤1000000:=by omega
 dsimp! [cM,iW,ai,l,lt,lb]
theorem gf{c:lq}{rs:List PyData}(hi:it E=some (ds,E1))(hl:bT tg c el ds (gV js E1)=some rs)(fl:bg rs=true)(ll:rs.length≤1000000):aS js it tg c el E=some (.ow rs,E1):=by
 simp only[aS,hi,Z0,hl,fl,ll,and_self,Z1,Bool.and_self,gv]
theorem uE:∀(F:List (List Nat)) (x:Sl),bT cA a9 cB (F.map ai) [x]=some (F.map cr)
 |[],x=>rfl
 |v::F,x=>by
  have t:cA (ai v) [x]=some [.sh (ai v)]:=rfl
  have e:cB [.sh (ai v)]=some (.sh (.int (NH.b8 v)),[.sh (ai v)]):=aH (ss:=[.sh (ai v)]) rfl rfl (nV v)
  exact kP t e (uE F _)
theorem Fk{K:List (List Nat)}(h:∀k∈K,NH.sf k)(w:List Nat):(K.map NH.b8).all (fun p=> !decide (p &&& NH.b8 w=0))=NhFam.kZ K w:=by
 unfold NhFam.kZ
 induction K with
 |nil=>rfl
 |cons k K ih=>
  rw[eR,List.all_cons,List.all_cons,ih fun k hk=>h k (gN _ hk)]
  congr 1
  exact congrArg not (decide_eq_decide.mpr (NH.CP (h k (g_ ..))))
theorem Bq{elt:aY}{r:PyData}{rs:List PyData}{b:Bool}(t:tg d E=some E1)(c:cond E1=some (b,E1))(el:elt E1=some (.sh r,E1))(h:bT tg cond elt ds E1=some rs):bT tg cond elt (d::ds) E=some (if b then r::rs else rs):=by
 cases b with
 |true=>simp only[bT,t,c,el,h,Z0,Z1,if_true,frz]
 |false=>simp only[bT,t,c,h,Z0,gv]
theorem Br{K:List (List Nat)}(hK:∀k∈K,NH.sf k):∀(F:List (List Nat)) (x:Sl),bT cC bP cD (F.map ai) [x,.sh (.list (K.map cr))]=some ((F.filter (NhFam.kZ K)).map ai)
 |[],x=>rfl
 |v::F,x=>by
  have t:cC (ai v) [x,.sh (.list (K.map cr))]=some [.sh (ai v),.sh (.list (K.map cr))]:=rfl
  have el:cD [.sh (ai v),.sh (.list (K.map cr))]=some (.sh (ai v),[.sh (ai v),.sh (.list (K.map cr))]):=rfl
  have c1:ak cS (af false (ae 0) ao) [.sh (ai v),.sh (.list (K.map cr))]=some (.sh (.int (NH.b8 v)),[.sh (ai v),.sh (.list (K.map cr))]):=aH (ss:=[.sh (ai v)]) rfl rfl (nV v)
  have pm:=Fe (NH.b8 v) (K.map NH.b8)
  rw[←x_,Fk hK v]at pm
  have c2:ak dP (af false (ak cS (af false (ae 0) ao)) (af false (ae 1) ao)) [.sh (ai v),.sh (.list (K.map cr))]=some (.sh (.bool (NhFam.kZ K v)),[.sh (ai v),.sh (.list (K.map cr))]):=aH (ss:=[.sh (.int (NH.b8 v)),.sh (.list (K.map cr))]) (by simp only[af,ao,c1,Z0,Z1,ae,Z3,Z2,gv]) rfl pm
  have c:bP [.sh (ai v),.sh (.list (K.map cr))]=some (NhFam.kZ K v,[.sh (ai v),.sh (.list (K.map cr))]):=by
   unfold bP
   simp only[ir,c2,Z0,look,Sl.val,qE,Z1]
  rw[eR,Bq t c el (Br hK F _),wm]
  split <;> rfl
theorem v_{f:aY}{r:Sl}(h:f E=some (r,E1)):fN f E=some (E1,.nx):=by
 simp only[fN,h,Z1]
theorem jQ{f:aY}{i:Nat}(h:f E=some (.ow ds,E1))(hi:i < E1.length):aE i f E=some (E1.set i (.ow ds),.nx):=by
 simp only[aE,h,Z0,PL.settle,Sl.isAl,hi,Z1,gv]
theorem JO{f g:aY}(hf:f E=some (s1,E))(hg:g E=some (s2,E)):af false f (af false g ao) E=some ([s1,s2],E):=by
 simp only[af,ao,hf,hg,Z0,Z1,gv]
theorem lT{f g:aY}{x:Int}(hf:f E=some (.sh (.int x),E))(hg:g E=some (.sh (.int y),E))(h:0 < y):ag ef false f g E=some (.sh (.int (x % y)),E):=by
 simp only[ag,hf,hg,Z0,ef,hJ,yS,look,Sl.val,h,Z1,gv]
theorem qY{f g:aY}{x:Int}(hf:f E=some (.sh (.int x),E))(hg:g E=some (.sh (.int y),E))(h:kW y=true):ag cR false f g E=some (.sh (.int (x / y)),E):=by
 simp only[ag,hf,hg,Z0,cR,hJ,yS,look,Sl.val,h,Z1,gv]
theorem JP{f g:aY}{x:Int}(hf:f E=some (.sh (.int x),E))(hg:g E=some (.sh (.int y),E)):ag qB false f g E=some (.sh (.int (x - y)),E):=by
 simp only[ag,hf,hg,Z0,qB,hJ,yS,look,Sl.val,Z1,gv]
theorem LA{f:aY}(hf:f E=some (s1,E)):af false f ao E=some ([s1],E):=by
 simp only[af,ao,hf,Z0,Z1,gv]
structure Uni (U:List Nat):Prop where
 srt:NhFam.Srt U
 lt:∀a∈U,az a
 len:U.length≤10
theorem Uni.ltrs{w:List Nat}(h:Uni U)(s:NhFam.Sub U w):NH.sf w:=fun a ha=>by
 have:=h.lt a (s.2 a ha)
 exact⟨this.1,this.2⟩
theorem Uni.azw{w:List Nat}(h:Uni U)(s:NhFam.Sub U w):∀a∈w,az a:=fun a ha=>h.lt a (s.2 a ha)
theorem Uni.short{w:List Nat}(h:Uni U)(s:NhFam.Sub U w):w.length≤10:=jS (NhFam.df s.1 h.srt s.2).length_le h.len
theorem Uni.small{V:List Nat}(u:Uni U)(hV:NhFam.Sub U V):Uni V:=⟨hV.1,u.azw hV,u.short hV⟩
structure Wrt (U:List Nat) (W:List (List Nat)):Prop where
 sub:∀t∈W,NhFam.le t U
 tl:∀t∈W,t.length≤20
 len:W.length≤190
def gQ(W:List (List Nat)):List (List Nat):=W.map aA
theorem Ht{t:List Nat}(u:Uni U)(h:NhFam.le t U):NhFam.Sub U (aA t):=⟨bp t,fun x hx=>h x (inOrd_mem.mp hx).2⟩
theorem Wrt.sets{W:List (List Nat)}(u:Uni U)(h:Wrt U W):∀v∈gQ W,NhFam.Sub U v:=fun v hv=>by
 obtain⟨t,ht,rfl⟩:=Zay.mp hv
 exact Ht u (h.sub t ht)
theorem Fm{F:List (List Nat)}(u:Uni U)(h:∀v∈F,NhFam.Sub U v)(hl:F.length < 1100):Fit F:=⟨hl,fun w hw=>⟨u.ltrs (h w hw),by have:=u.short (h w hw);omega⟩⟩
theorem mS(u:Uni U):∀(W:List (List Nat)) (x:Sl),(∀t∈W,NhFam.le t U)→(∀t∈W,t.length≤20)→bT dh a9 di (W.map ai) [x]=some ((gQ W).map ai)
 |[],x,_,_=>rfl
 |v::W,x,h,hl=>by
  have t:dh (ai v) [x]=some [.sh (ai v)]:=rfl
  have so:=pM (w:=v) (fun y hy=>u.lt y (h v (g_ ..) y hy)) (by have:=hl v (g_ ..);omega)
  have e:di [.sh (ai v)]=some (.sh (ai (aA v)),[.sh (ai v)]):=aH (ss:=[.sh (ai v)]) rfl rfl so
  exact kP t e (mS u W _ (fun v hv=>h v (gN _ hv)) fun v hv=>hl v (gN _ hv))
theorem mU{W:List (List Nat)}(u:Uni U)(h:Wrt U W):bA [.list (W.map ai)]=some (.ow ((NhFam.aJ (gQ W)).map ai)):=by
 have ls:(gQ W).length=W.length:=by unfold gQ;rw[c_]
 have hl:=h.len
 have c:aS [none] (a8 (ae 0)) dh a9 di [.sh (.list (W.map ai))]=some (.ow ((gQ W).map ai),[.sh (.list (W.map ai))]):=gf rfl (mS u W _ h.sub h.tl) (b9 _) (by rw[c_];omega)
 have b:ak cL (af false (aS [none] (a8 (ae 0)) dh a9 di) ao) [.sh (.list (W.map ai))]=some (.ow ((NhFam.aJ (gQ W)).map ai),[.sh (.list (W.map ai))]):=aH (ss:=[.ow ((gQ W).map ai)]) (by simp only[af,ao,c,Z0,Z1,gv]) rfl (lS (Fm u (h.sets u) (by omega)))
 have fl:=b9 (NhFam.aJ (gQ W))
 simp only[bA,iX,fi,vx,eZ,aZ,b,Z0,Z1,fE,gO,fl,Z4,Z5,Nat.sub_self,List.replicate,eR,List.map_nil,oS,Nat.reduceAdd,gv]
theorem sM{W:List (List Nat)}(h:∀t∈W,t.length≤20):W.flatten.length≤W.length*20:=by
 induction W with
 |nil=>simp
 |cons a W ih=>
  have:=ih fun v hv=>h v (gN _ hv)
  have:=h a (g_ ..)
  simp only[List.flatten_cons,iK,Z4]
  omega
theorem sN{W:List (List Nat)}(u:Uni U)(h:Wrt U W):cU [.list (W.map ai)]=some (.sh (ai (aA W.flatten))):=by
 have fl:=sM h.tl
 have hl:=h.len
 have e:=pM (w:=W.flatten) (fun y hy=>by
  obtain⟨v,hv,hy⟩:=List.mem_flatten.mp hy
  exact u.lt y (h.sub v hv y hy)) (by omega)
 have l:=yA W
 have l2:W.flatten.length≤1000000:=by omega
 have j:=Bp W
 have a:d4 "" (ae 0) [.sh (.list (W.map ai))]=some (.sh (.str ⟨W.flatten.toArray⟩),[.sh (.list (W.map ai))]):=by
  simp only[d4,mF,rO,ae,Z2,Z0,look,Sl.val,pN,l,l2,if_true,Z1,j]
 have b:ak eT (af false (d4 "" (ae 0)) ao) [.sh (.list (W.map ai))]=some (.sh (ai (aA W.flatten)),[.sh (.list (W.map ai))]):=aH (ss:=[.sh (.str ⟨W.flatten.toArray⟩)]) (by simp only[af,ao,a,Z0,Z1,gv]) rfl e
 have fx:fO (ai (aA W.flatten))=true:=rfl
 simp only[cU,ij,fi,vx,eZ,aZ,b,Z0,Z1,fE,gO,fx,Z4,Z5,Nat.sub_self,List.replicate,eR,List.map_nil,oS,Nat.reduceAdd,gv]
theorem mC{W:List (List Nat)}(u:Uni U)(h:Wrt U W):NhFam.Sub U (aA W.flatten):=⟨bp _,fun x hx=>by
 obtain⟨v,hv,hx⟩:=List.mem_flatten.mp (inOrd_mem.mp hx).2
 exact h.sub v hv x hx⟩
theorem C7{W:List (List Nat)}(u:Uni U)(h:Wrt U W):∀v∈gQ W,NhFam.le v (aA W.flatten):=fun v hv x hx=>by
 obtain⟨t,ht,rfl⟩:=Zay.mp hv
 obtain⟨a,b⟩:=inOrd_mem.mp hx
 exact inOrd_mem.mpr ⟨a,List.mem_flatten.mpr ⟨t,ht,b⟩⟩
theorem mD(L M:List (List Nat))(hn:L.Nodup)(hm:∀w∈L,w∈M):L.length≤M.length:=by
 induction L generalizing M with
 |nil=>simp
 |cons a L ih=>
  have hn':=List.nodup_cons.mp hn
  have:=ih (M.erase a) hn'.2 fun w hw=>(List.mem_erase_of_ne (a:=w) (b:=a) (fun e=>hn'.1 (by rw[←e];exact hw))).mpr (hm w (gN _ hw))
  rw[List.length_erase_of_mem (hm a (g_ ..))]at this
  have pos:0 < M.length:=List.length_pos_of_mem (hm a (g_ ..))
  simp only[Z4]
  omega
theorem yB{f:List Nat→Prop}(u:Uni U)(t:NhFam.Told U L f):L.length≤1024:=by
 have:=mD L (NhFam.fV U) (NhFam.i5 t.srt) fun w hw=>(NhFam.fm u.srt).mpr (t.sub w hw)
 rw[NhFam.j9]at this
 have p:2 ^ U.length≤2 ^ 10:=Nat.pow_le_pow_right (by decide) u.len
 omega
theorem Bs{V:List Nat}(u:Uni V)(p:List Nat→Bool):((NhFam.fV V).filter p).length≤1024:=by
 have:=List.length_filter_le p (NhFam.fV V)
 rw[NhFam.j9]at this
 have q:2 ^ V.length≤2 ^ 10:=Nat.pow_le_pow_right (by decide) u.len
 omega
theorem qM{W:List (List Nat)}(u:Uni U)(h:Wrt U W):aU [.list (W.map ai)]=some (.ow ((NhFam.sq (gQ W) (aA W.flatten)).map ai)):=by
 have tl:=NhFam.dF (h.sets u)
 have lL:=yB u tl
 have hV:=mC u h
 have uV:=u.small hV
 have hK:∀k∈NhFam.aJ (gQ W),NH.sf k:=fun k hk=>u.ltrs (tl.sub k hk)
 have cnt:=Bs uV (NhFam.kZ (NhFam.aJ (gQ W)))
 generalize eV:aA W.flatten=V at hV uV cnt
 generalize eF:gQ W=F at tl lL hK cnt
 have pl:=mU u h
 rw[eF]at pl
 have pn:=sN u h
 rw[eV]at pn
 have c1:ak bA (af false (ae 0) ao) [.sh (.list (W.map ai)),.no,.no]=some (.ow ((NhFam.aJ F).map ai),[.sh (.list (W.map ai)),.no,.no]):=aH (ss:=[.sh (.list (W.map ai))]) rfl rfl pl
 have i1:a8 (ak bA (af false (ae 0) ao)) [.sh (.list (W.map ai)),.no,.no]=some ((NhFam.aJ F).map ai,[.sh (.list (W.map ai)),.no,.no]):=by
  unfold a8
  rw[c1]
  rfl
 have p1:aS [none] (a8 (ak bA (af false (ae 0) ao))) cA a9 cB [.sh (.list (W.map ai)),.no,.no]=some (.ow ((NhFam.aJ F).map cr),[.sh (.list (W.map ai)),.no,.no]):=gf i1 (uE _ _) (C6 _) (by rw[c_];omega)
 have s1:aE 1 (aS [none] (a8 (ak bA (af false (ae 0) ao))) cA a9 cB) [.sh (.list (W.map ai)),.no,.no]=some ([.sh (.list (W.map ai)),.ow ((NhFam.aJ F).map cr),.no],.nx):=jQ p1 (show 1 < 3 by decide)
 have c2:ak cU (af false (ae 0) ao) [.sh (.list (W.map ai)),.ow ((NhFam.aJ F).map cr),.no]=some (.sh (ai V),[.sh (.list (W.map ai)),.ow ((NhFam.aJ F).map cr),.no]):=aH (ss:=[.sh (.list (W.map ai))]) rfl rfl pn
 have s2:aE 2 (ak cU (af false (ae 0) ao)) [.sh (.list (W.map ai)),.ow ((NhFam.aJ F).map cr),.no]=some ([.sh (.list (W.map ai)),.ow ((NhFam.aJ F).map cr),.sh (ai V)],.nx):=kQ c2 (show 2 < 3 by decide)
 have c3:fN (ak cM (af false (ae 2) ao)) [.sh (.list (W.map ai)),.ow ((NhFam.aJ F).map cr),.sh (ai V)]=some ([.sh (.list (W.map ai)),.ow ((NhFam.aJ F).map cr),.sh (ai V)],.nx):=v_ (aH (ss:=[.sh (ai V)]) rfl rfl (mR (by have:=uV.len;omega)))
 have c4:ak bG (af false (ae 2) ao) [.sh (.list (W.map ai)),.ow ((NhFam.aJ F).map cr),.sh (ai V)]=some (.ow ((qL V).map ai),[.sh (.list (W.map ai)),.ow ((NhFam.aJ F).map cr),.sh (ai V)]):=aH (ss:=[.sh (ai V)]) rfl rfl (Fg _ (by have:=uV.len;omega))
 have i4:a8 (ak bG (af false (ae 2) ao)) [.sh (.list (W.map ai)),.ow ((NhFam.aJ F).map cr),.sh (ai V)]=some ((NhFam.fV V).map ai,[.sh (.list (W.map ai)),.ow ((NhFam.aJ F).map cr),.sh (ai V)]):=by
  unfold a8
  rw[c4]
  rfl
 have fit:Fit ((NhFam.fV V).filter (NhFam.kZ (NhFam.aJ F))):=Fm uV (fun v hv=>(NhFam.fm uV.srt).mp (Zas.mp hv).1) (by omega)
 have p4:aS [none,some 1] (a8 (ak bG (af false (ae 2) ao))) cC bP cD [.sh (.list (W.map ai)),.ow ((NhFam.aJ F).map cr),.sh (ai V)]=some (.ow (((NhFam.fV V).filter (NhFam.kZ (NhFam.aJ F))).map ai),[.sh (.list (W.map ai)),.ow ((NhFam.aJ F).map cr),.sh (ai V)]):=gf i4 (Br hK _ _) (b9 _) (by rw[c_];omega)
 have c5:ak cL (af false (aS [none,some 1] (a8 (ak bG (af false (ae 2) ao))) cC bP cD) ao) [.sh (.list (W.map ai)),.ow ((NhFam.aJ F).map cr),.sh (ai V)]=some (.ow ((NhFam.sq F V).map ai),[.sh (.list (W.map ai)),.ow ((NhFam.aJ F).map cr),.sh (ai V)]):=aH (ss:=[.ow (((NhFam.fV V).filter (NhFam.kZ (NhFam.aJ F))).map ai)]) (by simp only[af,ao,p4,Z0,Z1,gv]) rfl (lS fit)
 have g:aU [.list (W.map ai)]=(ft [.sh (.list (W.map ai)),.no,.no]).bind fun a=>match a.2 with |.rt r=>fE r |.nx=>some (.sh .none) |_=>none:=rfl
 have fl:=b9 (NhFam.sq F V)
 rw[g,ft,aD s1,aD s2,aD c3]
 simp only[aZ,c5,Z1,Z0,fE,gO,fl,if_true]
theorem ph{W:List (List Nat)}(u:Uni U)(h:Wrt U W):NhFam.Told U (NhFam.sq (gQ W) (aA W.flatten)) (NhFam.jg (gQ W)):=by
 have s:=mC u h
 exact(NhFam.ph u.srt s.1 s.2 (h.sets u) (C7 u h)).congr fun w hw=>(NhFam.mj (h.sets u)).symm
theorem JQ{w:List Nat}(h:∀a∈w,az a):(ai w).canLay0=true:=by
 have:∀a∈w,a < 1114112:=fun a ha=>by have:=h a ha;unfold az at this;omega
 simp only[ai,PyData.canLay0,PyData.strOk]
 simpa using this
theorem Fn:∀{L:List (List Nat)},(∀w∈L,∀a∈w,az a)→PyData.canLayAll0 (L.map ai)=true∧PyData.depthAll (L.map ai)=0
 |[],_=>by simp[PyData.canLayAll0,PyData.depthAll]
 |w::L,h=>by
  obtain⟨x,y⟩:=Fn (L:=L) fun v hv=>h v (gN _ hv)
  have h1:=JQ (h w (g_ ..))
  have h2:(ai w).depth=0:=by simp[ai,PyData.depth]
  simp only[eR,PyData.canLayAll0,PyData.depthAll,h1,h2,x,y,Bool.and_self,true_and]
  rfl
theorem C8(h:∀w∈L,∀a∈w,az a):SeqAt.shaped (.list (L.map ai))=true:=by
 obtain⟨x,y⟩:=Fn h
 unfold SeqAt.shaped
 simp only[PyData.canLay0,PyData.depth,x,y,Bool.true_and]
 decide
theorem Fo:∀L:List (List Nat),PyData.eqvAll (L.map ai) (L.map ai)=true
 |[]=>by simp[PyData.eqvAll]
 |w::L=>by
  simp only[eR,PyData.eqvAll,Fo L,Bool.and_true]
  simp[ai,PyData.eqv]
theorem Fp(h:∀w∈L,∀a∈w,az a):AM (.list (L.map ai)) (.list (L.map ai))=some true:=by
 have e:AM (.list (L.map ai)) (.list (L.map ai))=(if SeqAt.shaped (.list (L.map ai))&&SeqAt.shaped (.list (L.map ai))then some (PyData.eqv (.list (L.map ai)) (.list (L.map ai)))else none):=rfl
 rw[e,C8 h]
 simp only[PyData.eqv,Fo,Bool.and_self,if_true]
theorem wa{f:aY}{z:Int}{c:Nat}(hf:f E=some (.sh (.int z),E))(h1:z=(c:Int))(h2:c≤1000):ja (af false f ao) E=some (ko 0 c,E):=by
 have o1:(-1000000:Int)≤z:=by omega
 have o2:z≤1000000:=by omega
 have t:z.toNat=c:=by omega
 simp only[ja,af,ao,hf,Z0,Z1,dZ,look,Sl.val,o1,o2,and_self,t,gv]
theorem Ik{f g:aY}(hf:f E=some (s1,E))(hg:g E=some (s2,E))(l1:look E s1=some (.list (L.map ai)))(l2:look E s2=some (.list (L.map ai)))(h:∀w∈L,∀a∈w,az a):dW (ag u9 false f g) E=some (false,E):=by
 have d:=Fp h
 simp only[dW,ag,hf,hg,Z0,u9,hJ,l1,l2,d,Z1,gv]
def k_:Nat→List Nat→List Pc
 | 0,_=>[]
 |k+1,w=>if w.length=1 then w.map fun a=>((a,1):Pc)else
  k_ k (w.take (w.length - w.length / 2))++k_ k (w.drop (w.length - w.length / 2))++NH.contr (k_ k (w.take (w.length - w.length / 2)))++NH.contr (k_ k (w.drop (w.length - w.length / 2)))
def Ak:Nat→Nat→Nat
 | 0,_=>0
 |k+1,n=>if n=1 then 1 else 2*(Ak k (n - n / 2)+Ak k (n / 2))
theorem g8(w:List Nat):(w.take (w.length - w.length / 2)).length=w.length - w.length / 2:=by rw[List.length_take];omega
theorem g9(w:List Nat):(w.drop (w.length - w.length / 2)).length=w.length / 2:=by rw[List.length_drop];omega
theorem qZ:∀(k:Nat) (w:List Nat),(k_ k w).length=Ak k w.length:=by
 intro k
 induction k with
 |zero=>intro w;rfl
 |succ k ih=>
  intro w
  unfold k_ Ak
  by_cases h:w.length=1
  ·rw[if_pos h,if_pos h,c_,h]
  ·rw[if_neg h,if_neg h,iK,iK,iK,NH.bC,NH.bC,ih,ih,g8,g9]
   omega
theorem Fq:∀(k n:Nat),1≤n→n≤2 ^ k→Ak (k+1) n≤4 ^ k:=by
 intro k
 induction k with
 |zero=>
  intro n h1 h2
  have:n=1:=by omega
  subst this
  decide
 |succ k ih=>
  intro n h1 h2
  unfold Ak
  by_cases h:n=1
  ·rw[if_pos h];exact Nat.one_le_pow _ _ (by decide)
  ·rw[if_neg h]
   rw[Nat.pow_succ]at h2
   have a:=ih (n - n / 2) (by omega) (by omega)
   have b:=ih (n / 2) (by omega) (by omega)
   rw[Nat.pow_succ]
   omega
theorem sO{p:Pc}(h:p∈NH.contr c):∃q∈c,p.1=q.1:=by
 obtain⟨q,hq,rfl⟩:=Zay.mp h
 exact⟨q,List.mem_reverse.mp hq,rfl⟩
theorem oO(x:Nat)(c:List Pc):(NH.contr c).filter (fun p=> !decide (p.1=x))=NH.contr (c.filter fun p=> !decide (p.1=x)):=by
 unfold NH.contr
 rw[List.filter_map,List.filter_reverse]
 rfl
theorem sP{x:Nat}{w:List Nat}(h:∀p∈c,p.1∈w)(hx:x∉w):c.filter (fun p=> !decide (p.1=x))=c:=by
 refine List.filter_eq_self.mpr fun p hp=>?_
 simp only[BO,decide_eq_false_iff_not]
 rintro rfl
 exact hx (h p hp)
structure Pl (w:List Nat) (c:List Pc):Prop where
 ne:c≠[]
 red:NH.Red c
 nails:∀p∈c,p.1∈w
 fall:∀x∈w,NH.short (c.filter fun p=> !decide (p.1=x))=[]
theorem Fr(a:Nat):Pl [a] [((a,1):Pc)]:=by
 refine⟨by simp,?_,fun p hp=>by simp at hp;simp[hp],fun x hx=>?_⟩
 ·exact NH.Red.cons (show(1:Int)≠0 by decide) (fun q hq=>by simp at hq) trivial
 ·simp only[Zaf]at hx
  subst hx
  simp[NH.short,NH.stk]
theorem yC(x:List α){y:List α}(h:y≠[]):(x++y).getLast? =y.getLast? :=by
 rw[List.getLast?_append]
 cases e:y.getLast? with
 |none=>exact absurd (List.getLast?_eq_none_iff.mp e) h
 |some z=>rfl
theorem JR{A B:List Nat}{a b:List Pc}(ha:Pl A a)(hb:Pl B b)(dj:∀x∈A,x∉B):Pl (A++B) (a++b++NH.contr a++NH.contr b):=by
 have ca:NH.contr a≠[]:=fun z=>ha.ne (List.length_eq_zero_iff.mp (by rw[←NH.bC,z];rfl))
 have na:∀p∈NH.contr a,p.1∈A:=fun p hp=>by
  obtain⟨q,hq,e⟩:=sO hp
  rw[e];exact ha.nails q hq
 have nb:∀p∈NH.contr b,p.1∈B:=fun p hp=>by
  obtain⟨q,hq,e⟩:=sO hp
  rw[e];exact hb.nails q hq
 refine⟨?_,?_,fun p hp=>?_,fun x hx=>?_⟩
 ·intro z
  simp only[List.append_eq_nil_iff]at z
  exact ha.ne z.1.1.1
 ·refine NH.qW (NH.qW (NH.qW ha.red hb.red fun x y h1 h2 e=>?_) (NH.uA ha.red) fun x y h1 h2 e=>?_) (NH.uA hb.red) fun x y h1 h2 e=>?_
  ·exact dj x.1 (ha.nails x (List.mem_of_getLast? h1)) (e▸hb.nails y (List.mem_of_head? h2))
  ·rw[yC _ hb.ne]at h1
   exact dj y.1 (na y (List.mem_of_head? h2)) (e▸hb.nails x (List.mem_of_getLast? h1))
  ·rw[yC _ ca]at h1
   exact dj x.1 (na x (List.mem_of_getLast? h1)) (e▸nb y (List.mem_of_head? h2))
 ·simp only[Zai]at hp
  rcases hp with((hp |hp) |hp) |hp
  ·exact List.mem_append_left _ (ha.nails p hp)
  ·exact wk _ (hb.nails p hp)
  ·exact List.mem_append_left _ (na p hp)
  ·exact wk _ (nb p hp)
 ·rw[List.filter_append,List.filter_append,List.filter_append,oO,oO]
  rcases Zai.mp hx with hx |hx
  ·have e:=ha.fall x hx
   rw[sP hb.nails (dj x hx)]
   have e0:NH.short (a.filter fun p=> !decide (p.1=x))=NH.short ([]:List Pc):=e
   have k:=NH.iS (NH.iS (NH.iS e0 (rfl:NH.short b=NH.short b)) (NH.uC e0)) (rfl:NH.short (NH.contr b)=NH.short (NH.contr b))
   rw[k]
   have z:NH.contr ([]:List Pc)=[]:=rfl
   rw[z,List.nil_append,oS]
   exact NH.rz b
  ·have e:=hb.fall x hx
   rw[sP ha.nails (fun z=>dj x z hx)]
   have e0:NH.short (b.filter fun p=> !decide (p.1=x))=NH.short ([]:List Pc):=e
   have k:=NH.iS (NH.iS (NH.iS (rfl:NH.short a=NH.short a) e0) (rfl:NH.short (NH.contr a)=NH.short (NH.contr a))) (NH.uC e0)
   rw[k]
   have z:NH.contr ([]:List Pc)=[]:=rfl
   rw[z,oS,oS]
   exact NH.rz a
theorem JS:∀(k:Nat) (w:List Nat),w.Nodup→1≤w.length→w.length≤2 ^ k→Pl w (k_ (k+1) w):=by
 intro k
 induction k with
 |zero=>
  intro w _ h1 h2
  obtain⟨a,rfl⟩:=List.length_eq_one_iff.mp (show w.length=1 by omega)
  exact Fr a
 |succ k ih=>
  intro w nd h1 h2
  by_cases h:w.length=1
  ·obtain⟨a,rfl⟩:=List.length_eq_one_iff.mp h
   exact Fr a
  ·unfold k_
   rw[if_neg h]
   rw[Nat.pow_succ]at h2
   have e:w.take (w.length - w.length / 2)++w.drop (w.length - w.length / 2)=w:=List.take_append_drop _ _
   have nd':=nd
   rw[←e]at nd'
   obtain⟨n1,n2,n3⟩:=List.nodup_append.mp nd'
   have p:=JR (ih _ n1 (by rw[g8];omega) (by rw[g8];omega)) (ih _ n2 (by rw[g9];omega) (by rw[g9];omega)) fun x h1 h2=>n3 x h1 x h2 rfl
   rw[e]at p
   exact p
theorem ql:∀(d:List Pc) (x0 x1:Sl),bT h9 a9 fX (d.map av) [x0,x1]=some ((d.map fun p=>((p.1,-p.2):Pc)).map av)
 |[],x0,x1=>rfl
 |p::d,x0,x1=>by
  have e:(h9 (av p) [x0,x1])=some [.sh (.str ⟨#[p.1]⟩),.sh (.int p.2)]:=rfl
  have e2:fX [.sh (.str ⟨#[p.1]⟩),.sh (.int p.2)]=some (.sh (av (p.1,-p.2)),[.sh (.str ⟨#[p.1]⟩),.sh (.int p.2)]):=by
   simp! [fX,av]
  rw[eR,bT,e,Option.bind_some]
  simp! [a9,e2,ql d]
theorem qm(c:List Pc)(h:c.length≤1000000):gq [.list (c.map av)]=some (.ow ((NH.contr c).map av)):=by
 have hl:(NH.contr c).length=c.length:=NH.bC c
 have e:(c.reverse.map fun p=>((p.1,-p.2):Pc))=NH.contr c:=rfl
 have k:=ql c.reverse .no .no
 rw[e,List.map_reverse]at k
 simp! [gq,kB,aS,gV,p_,k,c_,hl,h]
theorem sQ(x:Str)(l u:Option Int):Txt.slice x l u=PySem.StrLaws.sliceText x l u:=rfl
theorem Al(w:List Nat)(i:Nat)(h:i≤w.length):Txt.slice (⟨w.toArray⟩:Str) (some (i:Int)) none=⟨(w.drop i).toArray⟩:=by
 have e:(⟨w.toArray⟩:Str).cps.toList=w:=by simp
 rw[sQ,PySem.StrLaws.sliceText_from ⟨by omega,by rw[e];omega⟩,e]
 rw[show((w.length:Int) - (i:Int)).toNat=w.length - i by omega,Int.toNat_natCast,List.take_of_length_le (by simp)]
theorem Fs{u v:List Nat}:((⟨u.toArray⟩:Str)=⟨v.toArray⟩)↔u=v:=by
 constructor
 ·intro h
  have:=congrArg (fun x:Str=>x.cps.toList) h
  simpa using this
 ·intro h;rw[h]
theorem sR(w:List Nat)(i:Nat)(h:i≤w.length):Txt.slice (⟨w.toArray⟩:Str) none (some (i:Int))=⟨(w.take i).toArray⟩:=by
 have e:(⟨w.toArray⟩:Str).cps.toList=w:=by simp
 have ln:(⟨w.toArray⟩:Str).length=w.length:=by show w.toArray.size=_;simp
 rw[sQ,PySem.StrLaws.sliceText_to ⟨by omega,by rw[e];omega⟩,e,Int.sub_zero,Int.toNat_natCast,List.drop_zero]
theorem mV(n:Nat):cN [.int (n:Int)]=some (.sh (.int ((n - n / 2:Nat):Int))):=by
 have d:kW 2=true:=by decide
 have e:((n:Int)+1) / 2=((n - n / 2:Nat):Int):=by omega
 simp only[cN,iY,qK,Nat.reduceAdd,Nat.reduceSub,Nat.reduceLT,Nat.reduceLeDiff,d,e]
theorem Ft(a b:List Pc)(h:a.length+b.length≤100000):cy [.list (a.map av),.list (b.map av)]=some (.ow ((a++b++NH.contr a++NH.contr b).map av)):=by
 have ea:=qm a (by omega)
 have eb:=qm b (by omega)
 have l1:a.length+b.length≤1000000:=by omega
 have l2:a.length+b.length+a.length≤1000000:=by omega
 have l3:a.length+b.length+a.length+b.length≤1000000:=by omega
 have la:(NH.contr a).length=a.length:=NH.bC a
 have lb:(NH.contr b).length=b.length:=NH.bC b
 simp! [cy,fF,ea,eb,iK,c_,la,lb,l1,l2,l3]
theorem sS(self:List PyData→Option Sl)(a:Nat):fi 1 2 (cg self) [.str ⟨#[a]⟩]=some (.ow [av (a,1)]):=by
 have l:(⟨#[a]⟩:Str).length=1:=rfl
 simp only[cg,qK,Nat.reduceAdd,Nat.reduceSub,Nat.reduceLT,Nat.reduceLeDiff,l,av,Int.natCast_one]
theorem Am(self:List PyData→Option Sl)(w:List Nat)(h N:Int)(u v:Str)(A B C:List PyData)(hl:w.length≤1000000)(hN:(w.length:Int)=N)(n1:N≠1)(e0:cN [.int N]=some (.sh (.int h)))(eu:Txt.slice (⟨w.toArray⟩:Str) none (some h)=u)(ev:Txt.slice (⟨w.toArray⟩:Str) (some h) none=v)(ea:self [.str u]=some (.ow A))(eb:self [.str v]=some (.ow B))(ec:cy [.list A,.list B]=some (.ow C))(fc:bg C=true):
  fi 1 2 (cg self) [.str ⟨w.toArray⟩]=some (.ow C):=by
 simp only[fi,Z4,Z5,vx,cg,aC,bS,dW,ag,bD,af,ae,eZ,eR,List.map_nil,Nat.reduceSub,List.replicate,Z9,Z8,Z2,Sl.isBr,ao,Z1,Z0,fB,dZ,look,Sl.val,Hj,hl,hN,pC,iM,hJ,iP,n1,aZ,cb,aO,tD,frz,bE,aV,Nat.reduceAdd,Nat.reduceLeDiff,aE,ak,PL.settle,frzAll,fP,eB,bJ,oh,tB,e0,Nat.reduceLT,Z7,Z6,Z3,eu,ea,ev,eb,ec,fE,gO,fc,gv]
theorem C9:∀(k:Nat) (w:List Nat),k≤8→1≤w.length→w.length≤2 ^ k→cP (k+1) [.str ⟨w.toArray⟩]=some (.ow ((k_ (k+1) w).map av)):=by
 intro k
 induction k with
 |zero=>
  intro w _ h1 h2
  obtain⟨a,rfl⟩:=List.length_eq_one_iff.mp (show w.length=1 by omega)
  exact sS _ a
 |succ k ih=>
  intro w hk h1 h2
  by_cases h:w.length=1
  ·obtain⟨a,rfl⟩:=List.length_eq_one_iff.mp h
   exact sS _ a
  ·have p8:2 ^ (k+1)≤2 ^ 8:=Nat.pow_le_pow_right (by decide) hk
   have h3:=h2
   rw[Nat.pow_succ]at h3
   have la:=qZ (k+1) (w.take (w.length - w.length / 2))
   have lb:=qZ (k+1) (w.drop (w.length - w.length / 2))
   have sa:=Fq k (w.take (w.length - w.length / 2)).length (by rw[g8];omega) (by rw[g8];omega)
   have sb:=Fq k (w.drop (w.length - w.length / 2)).length (by rw[g9];omega) (by rw[g9];omega)
   have p4:4 ^ k≤4 ^ 7:=Nat.pow_le_pow_right (by decide) (by omega)
   have ec:=Ft (k_ (k+1) (w.take (w.length - w.length / 2))) (k_ (k+1) (w.drop (w.length - w.length / 2))) (by omega)
   have e:k_ (k+1+1) w=k_ (k+1) (w.take (w.length - w.length / 2))++k_ (k+1) (w.drop (w.length - w.length / 2))++NH.contr (k_ (k+1) (w.take (w.length - w.length / 2)))++NH.contr (k_ (k+1) (w.drop (w.length - w.length / 2))):=by
    rw[k_,if_neg h]
   rw[e]
   exact Am _ w ((w.length - w.length / 2:Nat):Int) w.length _ _ _ _ _ (by omega) rfl (by omega) (mV w.length) (sR w _ (by omega)) (Al w _ (by omega)) (ih _ (by omega) (by rw[g8];omega) (by rw[g8];omega)) (ih _ (by omega) (by rw[g9];omega) (by rw[g9];omega)) ec (jc _)
theorem lg:∀(d:List Pc) (x0 x1:Sl),bT fe a9 dI (d.map av) [x0,x1]=some ((d.map fun p=>((p.1,-p.2):Pc)).map av)
 |[],x0,x1=>rfl
 |p::d,x0,x1=>by
  have e:(fe (av p) [x0,x1])=some [.sh (.str ⟨#[p.1]⟩),.sh (.int p.2)]:=rfl
  have e2:dI [.sh (.str ⟨#[p.1]⟩),.sh (.int p.2)]=some (.sh (av (p.1,-p.2)),[.sh (.str ⟨#[p.1]⟩),.sh (.int p.2)]):=by
   simp! [dI,av,Int.zero_sub]
  rw[eR,bT,e,Option.bind_some]
  simp! [a9,e2,lg d]
theorem iJ(c:List Pc)(h:c.length≤1000000):bU [.list (c.map av)]=some (.ow ((NH.contr c).map av)):=by
 have hl:(NH.contr c).length=c.length:=NH.bC c
 have e:(c.reverse.map fun p=>((p.1,-p.2):Pc))=NH.contr c:=rfl
 have k:=lg c.reverse .no .no
 rw[e,List.map_reverse]at k
 simp! [bU,gH,aS,gV,p_,k,c_,hl,h]
theorem qo(x0:Sl):∀(c:List Pc) (st:List Pc) (a b:Sl),st.length+c.length≤100000→NailsOk st→NailsOk c→∃a' b',aX bB bM (c.map av) [x0,.ow (st.reverse.map av),a,b]=some ([x0,.ow ((c.foldl NH.stp st).reverse.map av),a',b'],.nx)
 |[],st,a,b,_,_,_=>⟨a,b,rfl⟩
 |p::c,st,a,b,h,hs,hc=>by
  have step:∃a' b',(bB (av p) [x0,.ow (st.reverse.map av),a,b]).bind bM=some ([x0,.ow ((NH.stp st p).reverse.map av),a',b'],.nx):=by
   have e0:=kt hs.reverse
   cases st with
   |nil=>
    simp only[List.reverse_nil,List.map_nil]at e0
    by_cases z:p.2=0
    ·simp! [bB,bM,List.reverse_nil,NH.stp,e0,av,z]
     exact⟨_,_,rfl⟩
    ·simp! [bB,bM,List.reverse_nil,NH.stp,e0,av,z]
     exact⟨_,_,rfl⟩
   |cons q st=>
    have lb:st.length < 1000000∧st.length+1 < 1000000:=by simp at h;omega
    simp only[Av,tw,eR,List.map_nil]at e0
    have et:∀ds,bB (av p) [x0,.ow ds,a,b]=some [x0,.ow ds,.sh (.str ⟨#[p.1]⟩),.sh (.int p.2)]:=fun _=>rfl
    rw[et,Option.bind_some]
    by_cases e:q.1=p.1
    ·by_cases z:q.2+p.2=0
     ·simp! [bB,bM,Av,NH.stp,e0,List.append_eq_nil_iff,reduceCtorEq,and_false,iK,c_,BN,lb]
      simp! [av,e,z,Int.add_comm p.2 q.2]
      simp[av]
     ·simp! [bB,bM,Av,NH.stp,e0,List.append_eq_nil_iff,reduceCtorEq,and_false,iK,c_,BN,lb]
      simp! [av,e,z,Int.add_comm p.2 q.2,c_,BN,lb]
      simp[av]
    ·by_cases z:p.2=0
     ·simp! [bB,bM,Av,NH.stp,e0,List.append_eq_nil_iff,reduceCtorEq,and_false,iK,c_,BN,lb]
      simp! [av,e,z]
      simp[av]
     ·simp! [bB,bM,Av,NH.stp,e0,List.append_eq_nil_iff,reduceCtorEq,and_false,iK,c_,BN,lb]
      simp! [av,e,z,iK,c_,BN,lb]
      simp[av]
  obtain⟨a',b',e⟩:=step
  have ih:=qo x0 c (NH.stp st p) a' b' (by have:=NH.uW st p;simp at h;omega) (hs.stp (hc p (g_ ..))) fun q hq=>hc q (gN _ hq)
  obtain⟨a2,b2,e2⟩:=ih
  refine⟨a2,b2,?_⟩
  rw[eR,aX,e]
  exact e2
theorem qp:∀(c:List Pc) (x:Sl),bT il a9 io (c.map av) [x]=some (c.map av)
 |[],x=>rfl
 |p::c,x=>by
  have e:il (av p) [x]=some [.sh (av p)]:=rfl
  have e2:io [.sh (av p)]=some (.sh (av p),[.sh (av p)]):=rfl
  rw[eR,bT,e,Option.bind_some]
  simp! [a9,e2,qp c]
theorem qr(c:List Pc)(h:c.length≤100000)(hN:NailsOk c):cm [.list (c.map av)]=some (.ow ((NH.rk c).map av)):=by
 obtain⟨a,b,e⟩:=qo (.sh (.list (c.map av))) c.reverse [] .no .no (by simpa using h) uk hN.reverse
 simp only[List.reverse_nil,List.map_nil,List.map_reverse]at e
 rw[ul]at e
 have hl:=NH.tV c.reverse ([]:List Pc)
 rw[ul]at hl
 have lb:(NH.rk c).length≤1000000:=by simp at hl;omega
 have k:=qp (NH.rk c) .no
 simp! [cm,kE,aS,gV,p_,e,List.reverse_reverse,k,c_,lb]
theorem LB(self:List PyData→Option Sl)(n h h' A B:Int)(n1:n≠1)(e0:cN [.int n]=some (.sh (.int h)))(hh:n - h=h')(ea:self [.int h]=some (.sh (.int A)))(eb:self [.int h']=some (.sh (.int B)))(ok:gw 2 (A+B)=true):fi 1 2 (ck self) [.int n]=some (.sh (.int (2*(A+B)))):=by
 simp only[ck,qK,Nat.reduceAdd,Nat.reduceSub,Nat.reduceLT,Nat.reduceLeDiff,n1,e0,hh,ea,eb,ok]
theorem Fu(self:List PyData→Option Sl):fi 1 2 (ck self) [.int 1]=some (.sh (.int 1)):=by
 simp only[ck,qK,Nat.reduceAdd,Nat.reduceSub,Nat.reduceLT,Nat.reduceLeDiff]
theorem LC:∀(k n:Nat),1≤n→n≤2 ^ k→cQ (k+1) [.int (n:Int)]=some (.sh (.int ((Ak (k+1) n:Nat):Int))):=by
 intro k
 induction k with
 |zero=>
  intro n h1 h2
  have:n=1:=by omega
  subst this
  exact Fu _
 |succ k ih=>
  intro n h1 h2
  by_cases h:n=1
  ·subst h
   exact Fu _
  ·rw[Nat.pow_succ]at h2
   have e:Ak (k+1+1) n=2*(Ak (k+1) (n - n / 2)+Ak (k+1) (n / 2)):=by rw[Ak,if_neg h]
   rw[e,Int.natCast_mul,Int.natCast_add]
   exact LB _ n ((n - n / 2:Nat):Int) ((n / 2:Nat):Int) _ _ (by omega) (mV n) (by omega) (ih _ (by omega) (by omega)) (ih _ (by omega) (by omega)) (kr (by decide) (by decide))
def M2(F:List (List Nat)):Prop:=∀w∈F,1≤w.length∧w.length≤10
def sz(w:List Nat):Nat:=Ak 8 w.length
def Hu(w:List Nat):PyData:=.int ((sz w:Nat):Int)
theorem Fv(l:List (List Nat)):bg (l.map Hu)=true:=by
 induction l with
 |nil=>rfl
 |cons a l ih=>show(fO (Hu a)&&bg (l.map Hu))=true;rw[ih];rfl
theorem Bt:∀l:List (List Nat),qa (l.map Hu)=some (l.map fun w=>((sz w:Nat):Int))
 |[]=>rfl
 |a::l=>by
  show(qa (l.map Hu)).map (((sz a:Nat):Int):: ·)=_
  rw[Bt l]
  rfl
theorem Fw(l:List (List Nat)):(l.map fun w=>((sz w:Nat):Int)).sum=(((l.map sz).sum:Nat):Int):=by
 induction l with
 |nil=>rfl
 |cons a l ih=>simp[ih]
theorem sU{w:List Nat}{f:aY}(hf:f E=some (.sh (ai w),E))(hl:w.length≤1000000):bD fB (af false f ao) E=some (.sh (.int (w.length:Int)),E):=by
 unfold ai at hf
 simp! [hf,kR,hl]
theorem uF:∀(F:List (List Nat)) (x:Sl),M2 F→bT gl a9 eJ (F.map ai) [x]=some (F.map Hu)
 |[],x,_=>rfl
 |w::F,x,h=>by
  have hw:=h w (g_ ..)
  have l:=sU (E:=[.sh (ai w)]) (f:=ae 0) rfl (show w.length≤1000000 by omega)
  have c:eJ [.sh (ai w)]=some (.sh (Hu w),[.sh (ai w)]):=aH (ss:=[.sh (.int (w.length:Int))]) (LA l) rfl (LC 7 w.length hw.1 (by omega))
  exact kP (E1:=[.sh (ai w)]) rfl c (uF F _ fun v hv=>h v (gN _ hv))
theorem JT{F:List (List Nat)}(hi:it E=some (ds,E))(hl:bT tg a9 el ds (gV [none] E)=some (F.map Hu))(ll:F.length≤1000000):bD rQ (af false (aS [none] it tg a9 el) ao) E=some (.sh (.int (((F.map sz).sum:Nat):Int)),E):=by
 have p:aS [none] it tg a9 el E=some (.ow (F.map Hu),E):=gf hi hl (Fv _) (by rw[c_];exact ll)
 simp only[bD,af,ao,p,Z0,Z1,dZ,look,Sl.val,rQ,Bt,Fw,gv]
theorem LD:(Str.ofString "")=⟨([]:List Nat).toArray⟩:=by decide+kernel
theorem LE(u v:List Nat):AM (.str ⟨u.toArray⟩) (.str ⟨v.toArray⟩)=some (decide (u=v)):=by
 rw[AW]
 congr 1
 exact decide_eq_decide.mpr Fs
theorem Bu(u:List Nat):AM (.str ⟨u.toArray⟩) (.str "")=some (decide (u=[])):=by
 rw[LD]
 exact LE u []
theorem sW{f:List Nat→Prop}(t:NhFam.Told U L f)(m:NhFam.xI U f):NhFam.aJ L=L:=(NhFam.dF t.sub).uniq t fun w hw=>t.up_iff m hw
theorem pO(u:Uni U)(h:∀w∈L,NhFam.Sub U w):gQ L=L:=by
 unfold gQ
 induction L with
 |nil=>rfl
 |cons w L ih=>
  rw[eR,ih fun v hv=>h v (gN _ hv),Fj (h w (g_ ..)).1 (u.azw (h w (g_ ..)))]
structure Rul (U:List Nat) (L:List (List Nat)):Prop where
 u:Uni U
 w:Wrt U L
 sub:∀v∈L,NhFam.Sub U v
 least:NhFam.aJ L=L
 ne:∀v∈L,v≠[]
 nil:L≠[]
theorem wb{d:List PyData}{i:Nat}(h:E[i]? =some (.ow d)):look E (.al i)=some (.list d):=by
 simp only[look,h]
 rfl
theorem JU{f:aY}{u:List Nat}(hf:f E=some (.sh (ai u),E)):dW (ag iM false f (pC (.str ""))) E=some (decide (u=[]),E):=by
 have q:=Bu u
 unfold ai at hf
 simp! [hf,q]
theorem An(r:Rul U L):bu [.list (L.map ai)]=some (.ow (L.map ai)):=by
 have a:=mU r.u r.w
 rw[pO r.u r.sub,r.least]at a
 have c:ak bA (af false (ae 0) ao) [.sh (.list (L.map ai))]=some (.ow (L.map ai),[.sh (.list (L.map ai))]):=aH (ss:=[.sh (.list (L.map ai))]) rfl rfl a
 have g:bu [.list (L.map ai)]=(cV [.sh (.list (L.map ai))]).bind fun a=>match a.2 with |.rt r=>fE r |.nx=>some (.sh .none) |_=>none:=rfl
 have fl:=b9 L
 rw[g,cV]
 simp only[aZ,c,Z1,Z0,fE,gO,fl,if_true]
theorem tM(r:Rul U L):eU [.list (L.map ai)]=some (.sh .none):=by
 obtain⟨w,L',e⟩:∃w L',L=w::L':=by
  cases L with
  |nil=>exact absurd rfl r.nil
  |cons w L'=>exact⟨w,L',rfl⟩
 have hw:w≠[]:=r.ne w (by rw[e];exact g_ ..)
 have ll:=r.w.len
 have n0:¬((L.length:Int)=0):=by rw[e];simp;omega
 have lb:L.length≤1000000:=by omega
 have az':∀w∈L,∀a∈w,az a:=fun w hw=>r.u.azw (r.sub w hw)
 have g:eU [.list (L.map ai)]=(gE [.sh (.list (L.map ai))]).bind fun a=>match a.2 with |.rt r=>fE r |.nx=>some (.sh .none) |_=>none:=rfl
 have s1:bS (qD (iN (ir (mF (vq .list) (ae 0)))) (dW (ag iM false (bD fB (af false (ae 0) ao)) (pC (.int 0))))) iF aV [.sh (.list (L.map ai))]=some ([.sh (.list (L.map ai))],.nx):=by
  simp! [c_,lb,n0]
 have c:ak bu (af false (ae 0) ao) [.sh (.list (L.map ai))]=some (.ow (L.map ai),[.sh (.list (L.map ai))]):=aH (ss:=[.sh (.list (L.map ai))]) rfl rfl (An r)
 have s2:bS (dW (ag u9 false (ak bu (af false (ae 0) ao)) (ae 0))) iF aV [.sh (.list (L.map ai))]=some ([.sh (.list (L.map ai))],.nx):=gP (Ik (L:=L) c rfl rfl rfl az') rfl
 have s3:bS (dW (ag iM false (ag mG false (ae 0) (pC (.int 0))) (pC (.str "")))) iF aV [.sh (.list (L.map ai))]=some ([.sh (.list (L.map ai))],.nx):=by
  have i:ag mG false (ae 0) (pC (.int 0)) [.sh (.list (L.map ai))]=some (.sh (ai w),[.sh (.list (L.map ai))]):=by
   rw[e,eR]
   unfold ai
   simp! [if_true]
  have k:=JU i
  rw[zz3 hw]at k
  exact gP k rfl
 rw[g,gE,aD s1,aD s2,s3]
 rfl
theorem Rul.meet(r:Rul U L):NhFam.Told U (NhFam.sq L (aA L.flatten)) (NhFam.jg L):=by
 have:=ph r.u r.w
 rwa [pO r.u r.sub]at this
def mt(L:List (List Nat)):List (List Nat):=NhFam.sq L (aA L.flatten)
theorem Rul.few(r:Rul U L):M2 (mt L):=fun w hw=>by
 have s:=r.meet.sub w hw
 have f:=((r.meet.mem w).mp hw).2.1
 refine⟨?_,r.u.short s⟩
 cases L with
 |nil=>exact absurd rfl r.nil
 |cons v L'=>
  obtain⟨x,_,hx⟩:=f v (g_ ..)
  exact List.length_pos_of_mem hx
theorem Bv(r:Rul U L):aU [.list (L.map ai)]=some (.ow ((mt L).map ai)):=by
 have:=qM r.u r.w
 rwa [pO r.u r.sub]at this
theorem C_(r:Rul U L):bH [.list (L.map ai)]=some (.sh (.int ((((mt L).map sz).sum:Nat):Int))):=by
 have s1:fN (ak eU (af false (ae 0) ao)) [.sh (.list (L.map ai))]=some ([.sh (.list (L.map ai))],.nx):=v_ (aH (ss:=[.sh (.list (L.map ai))]) rfl rfl (tM r))
 have c2:ak aU (af false (ae 0) ao) [.sh (.list (L.map ai))]=some (.ow ((mt L).map ai),[.sh (.list (L.map ai))]):=aH (ss:=[.sh (.list (L.map ai))]) rfl rfl (Bv r)
 have i2:a8 (ak aU (af false (ae 0) ao)) [.sh (.list (L.map ai))]=some ((mt L).map ai,[.sh (.list (L.map ai))]):=by
  unfold a8
  rw[c2]
  rfl
 have ll:=yB r.u r.meet
 have s2:=JT i2 (uF (mt L) .no r.few) (by unfold mt;omega)
 have g:bH [.list (L.map ai)]=(eQ [.sh (.list (L.map ai))]).bind fun a=>match a.2 with |.rt r=>fE r |.nx=>some (.sh .none) |_=>none:=rfl
 rw[g,eQ,aD s1]
 simp only[aZ,s2,Z1,Z0,fE]
 rfl
theorem Da(a b:List Pc)(h:a.length+b.length≤1000000):i6 [.list (a.map av),.list (b.map av)]=some (.ow ((a++b).map av)):=by
 have fl:=jc (a++b)
 rw[tw]at fl ⊢
 simp only[i6,oE,qK,Nat.reduceAdd,Nat.reduceSub,Nat.reduceLT,Nat.reduceLeDiff,c_,h,fl]
def crd(F:List (List Nat)):List Pc:=F.flatMap (k_ 8)
theorem wc(F:List (List Nat)):(crd F).length=(F.map sz).sum:=by
 induction F with
 |nil=>rfl
 |cons w F ih=>
  have e:crd (w::F)=k_ 8 w++crd F:=rfl
  rw[e,iK,ih,qZ]
  simp[sz]
theorem Bw(x0:Sl):∀(F:List (List Nat)) (c:List Pc) (a:Sl),M2 F→c.length+(F.map sz).sum≤100000→∃a',aX gG fH (F.map ai) [x0,.ow (c.map av),a]=some ([x0,.ow ((c++crd F).map av),a'],.nx)
 |[],c,a,_,_=>⟨a,by rw[show crd []=[]from rfl,oS];rfl⟩
 |w::F,c,a,h,hl=>by
  have hw:=h w (g_ ..)
  have lw:(k_ 8 w).length=sz w:=qZ 8 w
  simp only[eR,List.sum_cons]at hl
  have p:eP [ai w]=some (.ow ((k_ 8 w).map av)):=C9 7 w (by decide) hw.1 (by omega)
  have c1:ak eP (af false (ae 2) ao) [x0,.ow (c.map av),.sh (ai w)]=some (.ow ((k_ 8 w).map av),[x0,.ow (c.map av),.sh (ai w)]):=aH (ss:=[.sh (ai w)]) rfl rfl p
  have c2:ak i6 (af false (ae 1) (af false (ak eP (af false (ae 2) ao)) ao)) [x0,.ow (c.map av),.sh (ai w)]=some (.ow ((c++k_ 8 w).map av),[x0,.ow (c.map av),.sh (ai w)]):=
   aH (ss:=[.al 1,.ow ((k_ 8 w).map av)]) (JO rfl c1) rfl (Da c (k_ 8 w) (by omega))
  have st:(gG (ai w) [x0,.ow (c.map av),a]).bind fH=some ([x0,.ow ((c++k_ 8 w).map av),.sh (ai w)],.nx):=by
   show fH [x0,.ow (c.map av),.sh (ai w)]=_
   exact jQ c2 (show 1 < 3 by decide)
  obtain⟨a',e⟩:=Bw x0 F (c++k_ 8 w) (.sh (ai w)) (fun v hv=>h v (gN _ hv)) (by rw[iK];omega)
  refine⟨a',?_⟩
  rw[eR,aX,st]
  have e2:c++crd (w::F)=(c++k_ 8 w)++crd F:=by rw[n8];rfl
  rw[e2]
  exact e
theorem Bx(r:Rul U L)(h8:((mt L).map sz).sum≤800):eK [.list (L.map ai)]=some (.ow ((crd (mt L)).map av)):=by
 obtain⟨a,e⟩:=Bw (.sh (.list (L.map ai))) (mt L) [] .no r.few (by simp;omega)
 have c1:ak bH (af false (ae 0) ao) [.sh (.list (L.map ai)),.no,.no]=some (.sh (.int ((((mt L).map sz).sum:Nat):Int)),[.sh (.list (L.map ai)),.no,.no]):=aH (ss:=[.sh (.list (L.map ai))]) rfl rfl (C_ r)
 have d:decide ((800:Int) < ((((mt L).map sz).sum:Nat):Int))=false:=zz3 (by omega)
 have s1:bS (dW (ag (hJ (fk .gt)) false (ak bH (af false (ae 0) ao)) (pC (.int 800)))) iF aV [.sh (.list (L.map ai)),.no,.no]=some ([.sh (.list (L.map ai)),.no,.no],.nx):=by
  refine gP ?_ rfl
  generalize ak bH (af false (ae 0) ao)=f at c1
  simp! [dW,ag,c1,d]
 have s2:aE 1 (cb bE) [.sh (.list (L.map ai)),.no,.no]=some ([.sh (.list (L.map ai)),.ow [],.no],.nx):=by simp! [if_true]
 have c3:ak aU (af false (ae 0) ao) [.sh (.list (L.map ai)),.ow [],.no]=some (.ow ((mt L).map ai),[.sh (.list (L.map ai)),.ow [],.no]):=aH (ss:=[.sh (.list (L.map ai))]) rfl rfl (Bv r)
 have i3:a8 (ak aU (af false (ae 0) ao)) [.sh (.list (L.map ai)),.ow [],.no]=some ((mt L).map ai,[.sh (.list (L.map ai)),.ow [],.no]):=by
  unfold a8
  rw[c3]
  rfl
 have s3:dC (a8 (ak aU (af false (ae 0) ao))) gG fH [.sh (.list (L.map ai)),.ow [],.no]=some ([.sh (.list (L.map ai)),.ow ((crd (mt L)).map av),a],.nx):=by
  unfold dC
  rw[i3,Option.bind_some]
  exact e
 have g:eK [.list (L.map ai)]=(j_ [.sh (.list (L.map ai)),.no,.no]).bind fun a=>match a.2 with |.rt r=>fE r |.nx=>some (.sh .none) |_=>none:=rfl
 have fl:=jc (crd (mt L))
 rw[g,j_,aD s1,aD s2,aD s3]
 simp! [fl]
theorem qu(f:α→Bool):∀l:List α,hW (l.map fun a=>PyData.bool (f a))=some (l.map f)
 |[]=>rfl
 |a::l=>by
  show(hW (l.map fun a=>PyData.bool (f a))).map (f a:: ·)=_
  rw[qu f l]
  rfl
theorem uG(f:α→Bool):∀l:List α,bg (l.map fun a=>PyData.bool (f a))=true
 |[]=>rfl
 |a::l=>by show(fO (.bool (f a))&&_)=true;rw[uG f l];rfl
theorem Il{f:aY}(h:f E=some (.ow ds,E)):a8 f E=some (ds,E):=by
 unfold a8
 rw[h]
 rfl
theorem JV(w:List Nat)(a:Nat):cF [.sh (.str ⟨#[a]⟩),.sh (ai w)]=some (.sh (.bool (decide (a∈w))),[.sh (.str ⟨#[a]⟩),.sh (ai w)]):=by
 have o:=qX w a
 simp! [cF,ai,o,Bool.not_not]
theorem By(w:List Nat):∀(v:List Nat) (x:Sl),bT dJ a9 cF (v.map bZ) [x,.sh (ai w)]=some (v.map fun a=>PyData.bool (decide (a∈w)))
 |[],x=>rfl
 |a::v,x=>by
  have t:dJ (bZ a) [x,.sh (ai w)]=some [.sh (bZ a),.sh (ai w)]:=rfl
  exact kP t (JV w a) (By w v _)
theorem JW(v w:List Nat):(v.map fun a=>decide (a∈w)).all id=decide (NhFam.le v w):=by
 rw[List.all_map]
 exact Bool.eq_iff_iff.mpr (by rw[decide_eq_true_iff];simp[NhFam.le])
theorem JX(w:List Nat)(x1:Sl)(v:List Nat)(hv:v.length≤1000):ir (bD GS (af false (aS [none,some 0] (a8 (ae 2)) dJ a9 cF) ao)) [.sh (ai w),x1,.sh (ai v)]=some (decide (NhFam.le v w),[.sh (ai w),x1,.sh (ai v)]):=by
 have it:a8 (ae 2) [.sh (ai w),x1,.sh (ai v)]=some (v.map bZ,[.sh (ai w),x1,.sh (ai v)]):=by
  simp! [ai,Bj]
 have k:=gf (js:=[none,some 0]) it (By w v .no) (uG _ v) (by rw[c_];omega)
 have bo:=qu (fun a=>decide (a∈w)) v
 have al:=JW v w
 simp only[ir,bD,af,ao,k,Z0,Z1,dZ,look,Sl.val,GS,bo,al,qE,gv]
theorem yD(w:List Nat)(x1:Sl):∀(K:List (List Nat)) (a:Sl),(∀k∈K,k.length≤1000)→∃E,aX bw be (K.map ai) [.sh (ai w),x1,a]=some (E,if K.any (fun k=>decide (NhFam.le k w))then .rt (.sh (.bool true))else .nx)
 |[],a,_=>⟨_,rfl⟩
 |k::K,a,h=>by
  have t1:=JX w x1 k (h k (g_ ..))
  have tg:bw (ai k) [.sh (ai w),x1,a]=some [.sh (ai w),x1,.sh (ai k)]:=rfl
  by_cases q:NhFam.le k w
  ·rw[zz4 q]at t1
   refine⟨[.sh (ai w),x1,.sh (ai k)],?_⟩
   have st:(bw (ai k) [.sh (ai w),x1,a]).bind be=some ([.sh (ai w),x1,.sh (ai k)],.rt (.sh (.bool true))):=by
    rw[tg,Option.bind_some,be]
    exact gM t1 rfl
   rw[eR,aX,st,List.any_cons,zz4 q]
   rfl
  ·rw[zz3 q]at t1
   obtain⟨E,ih⟩:=yD w x1 K (.sh (ai k)) fun v hv=>h v (gN _ hv)
   refine⟨E,?_⟩
   have st:(bw (ai k) [.sh (ai w),x1,a]).bind be=some ([.sh (ai w),x1,.sh (ai k)],.nx):=by
    rw[tg,Option.bind_some,be]
    exact gP t1 rfl
   rw[eR,aX,st,List.any_cons,zz3 q,Bool.false_or]
   exact ih
theorem Fx(w:List Nat)(K:List (List Nat))(h:∀k∈K,k.length≤1000):cJ [ai w,.list (K.map ai)]=some (.sh (.bool (K.any fun k=>decide (NhFam.le k w)))):=by
 obtain⟨E,e⟩:=yD w (.sh (.list (K.map ai))) K .no h
 have g:cJ [ai w,.list (K.map ai)]=(fw [.sh (ai w),.sh (.list (K.map ai)),.no]).bind fun a=>match a.2 with |.rt r=>fE r |.nx=>some (.sh .none) |_=>none:=rfl
 have it:a8 (ae 1) [.sh (ai w),.sh (.list (K.map ai)),.no]=some (K.map ai,[.sh (ai w),.sh (.list (K.map ai)),.no]):=rfl
 rw[g,fw]
 cases q:K.any (fun k=>decide (NhFam.le k w))with
 |true=>
  rw[q]at e
  have fo:dC (a8 (ae 1)) bw be [.sh (ai w),.sh (.list (K.map ai)),.no]=some (E,.rt (.sh (.bool true))):=by
   unfold dC
   rw[it,Option.bind_some]
   exact e
  simp only[aC,fo,Z0]
  rfl
 |false=>
  rw[q]at e
  have fo:dC (a8 (ae 1)) bw be [.sh (ai w),.sh (.list (K.map ai)),.no]=some (E,.nx):=by
   unfold dC
   rw[it,Option.bind_some]
   exact e
  rw[aD fo]
  rfl
theorem Fy(x0 x2:Sl):∀(S K:List (List Nat)) (a:Sl),(∀k∈S,k.length≤1000)→(∀k∈K,k.length≤1000)→K.length+S.length≤2000→∃a',aX d8 cZ (S.map ai) [x0,.ow (K.map ai),x2,a]=some ([x0,.ow ((NhFam.dE K S).map ai),x2,a'],.nx)
 |[],K,a,_,_,_=>⟨a,rfl⟩
 |w::S,K,a,hS,hK,hl=>by
  have tg:d8 (ai w) [x0,.ow (K.map ai),x2,a]=some [x0,.ow (K.map ai),x2,.sh (ai w)]:=rfl
  have c3:ak cJ (af false (ae 3) (af false (ae 1) ao)) [x0,.ow (K.map ai),x2,.sh (ai w)]=some (.sh (.bool (K.any (fun k=>decide (NhFam.le k w)))),[x0,.ow (K.map ai),x2,.sh (ai w)]):=aH (ss:=[.sh (ai w),.al 1]) rfl rfl (Fx w K hK)
  have c2:iN (ir (ak cJ (af false (ae 3) (af false (ae 1) ao)))) [x0,.ow (K.map ai),x2,.sh (ai w)]=some (!K.any (fun k=>decide (NhFam.le k w)),[x0,.ow (K.map ai),x2,.sh (ai w)]):=by
   simp only[iN,ir,c3,Z0,look,Sl.val,qE,Z1]
  simp only[Z4]at hl
  by_cases h:K.any (fun k=>decide (NhFam.le k w))=true
  ·rw[h]at c2
   have st:(d8 (ai w) [x0,.ow (K.map ai),x2,a]).bind cZ=some ([x0,.ow (K.map ai),x2,.sh (ai w)],.nx):=by
    rw[tg,Option.bind_some,cZ]
    exact gP c2 rfl
   obtain⟨a',e⟩:=Fy x0 x2 S K (.sh (ai w)) (fun v hv=>hS v (gN _ hv)) hK (by omega)
   refine⟨a',?_⟩
   rw[eR,aX,st,NhFam.dE,if_pos h]
   exact e
  ·have h':K.any (fun k=>decide (NhFam.le k w))=false:=by simpa using h
   rw[h']at c2
   have b1:K.length < 1000000:=by omega
   have st:(d8 (ai w) [x0,.ow (K.map ai),x2,a]).bind cZ=some ([x0,.ow ((K++[w]).map ai),x2,.sh (ai w)],.nx):=by
    rw[tg,Option.bind_some,cZ]
    refine gM c2 ?_
    simp only[qK,Nat.reduceAdd,Nat.reduceSub,Nat.reduceLT,Nat.reduceLeDiff,c_,b1,tw]
   obtain⟨a',e⟩:=Fy x0 x2 S (K++[w]) (.sh (ai w)) (fun v hv=>hS v (gN _ hv)) (fun v hv=>by
    rcases Zai.mp hv with q |q
    ·exact hK v q
    ·rw[Zaf.mp q];exact hS w (g_ ..)) (by simp;omega)
   refine⟨a',?_⟩
   rw[eR,aX,st,NhFam.dE,if_neg h]
   exact e
def F9(a b:List Nat):Bool:=decide (a≤b)
def sX(G:List (List Nat)):List (List Nat):=G.mergeSort F9
theorem uH(a b c:List Nat)(h:F9 a b=true)(k:F9 b c=true):F9 a c=true:=zz4 (List.le_trans (zz5 h) (zz5 k))
theorem uI(a b:List Nat):(F9 a b||F9 b a)=true:=by
 rcases List.le_total a b with h |h
 ·simp[F9,h]
 ·simp[F9,h]
theorem srtW_mem{G:List (List Nat)}{w:List Nat}:w∈sX G↔w∈G:=(BM G _).mem_iff
theorem Fz(G:List (List Nat)):(sX G).length=G.length:=(BM G _).length_eq
theorem FA(G:List (List Nat)):jI (G.map yW)=(sX G).map yW:=
 List.Perm.eq_of_pairwise (fun _ _ _ _ h k=>rR h k) (List.pairwise_mergeSort mh o7 _) (List.pairwise_map.mpr ((List.pairwise_mergeSort uH uI G).imp fun {a b} h=>h)) ((BM _ vC).trans ((BM G F9).symm.map yW))
theorem JY(w:List Nat)(n:Nat)(hw:w.length≤1000):cY [.sh (ai w),.sh (.int (n:Int))]=some (decide (w.length=n),[.sh (ai w),.sh (.int (n:Int))]):=by
 have l:=sU (E:=[.sh (ai w),.sh (.int (n:Int))]) (f:=ae 0) rfl (show w.length≤1000000 by omega)
 have:=xY (f:=bD fB (af false (ae 0) ao)) (g:=ae 1) (E:=[.sh (ai w),.sh (.int (n:Int))]) (y:=(n:Int)) l rfl
 rw[show decide ((w.length:Int)=(n:Int))=decide (w.length=n)from decide_eq_decide.mpr (by omega)]at this
 exact this
theorem Bz(n:Nat):∀(F:List (List Nat)) (x:Sl),(∀w∈F,w.length≤1000)→bT cW cY cX (F.map ai) [x,.sh (.int (n:Int))]=some ((F.filter fun w=>decide (w.length=n)).map ai)
 |[],x,_=>rfl
 |w::F,x,h=>by
  have t:cW (ai w) [x,.sh (.int (n:Int))]=some [.sh (ai w),.sh (.int (n:Int))]:=rfl
  have k:=Bq (elt:=cX) t (JY w n (h w (g_ ..))) rfl (Bz n F _ fun v hv=>h v (gN _ hv))
  rw[eR,k,wm]
  split <;> rfl
def lU(F:List (List Nat))(lo:Nat):Nat→List (List Nat)
 | 0=>[]
 |n+1=>sX (F.filter fun w=>decide (w.length=lo))++lU F (lo+1) n
theorem sY:∀(A K B:List (List Nat)),NhFam.dE K (A++B)=NhFam.dE (NhFam.dE K A) B
 |[],K,B=>rfl
 |a::A,K,B=>by
  rw[List.cons_append,NhFam.dE,NhFam.dE]
  split
  ·exact sY A K B
  ·exact sY A _ B
theorem sZ{w:List Nat}:∀{A K:List (List Nat)},w∈NhFam.dE K A→w∈K∨w∈A
 |[],K,h=>.inl h
 |a::A,K,h=>by
  rw[NhFam.dE]at h
  split at h
  ·exact(sZ h).imp id (gN _)
  ·rcases sZ h with q |q
   ·rcases Zai.mp q with q |q
    ·exact .inl q
    ·exact .inr (by rw[Zaf.mp q];exact g_ ..)
   ·exact .inr (gN _ q)
theorem oP:∀(A K:List (List Nat)),(NhFam.dE K A).length≤K.length+A.length
 |[],K=>by simp[NhFam.dE]
 |a::A,K=>by
  rw[NhFam.dE]
  split
  ·have:=oP A K;simp;omega
  ·have:=oP A (K++[a]);simp at this ⊢;omega
theorem FB(F:List (List Nat))(hF:∀w∈F,w.length≤1000):∀(n lo:Nat) (K:List (List Nat)) (a b:Sl),(∀k∈K,k.length≤1000)→K.length+(lU F lo n).length≤2000→F.length≤2000→∃a' b',aX d9 d_ (ko lo n) [.sh (.list (F.map ai)),.ow (K.map ai),a,b]=some ([.sh (.list (F.map ai)),.ow ((NhFam.dE K (lU F lo n)).map ai),a',b'],.nx)
 | 0,lo,K,a,b,_,_,_=>⟨a,b,rfl⟩
 |n+1,lo,K,a,b,hK,hl,hl2=>by
  have tg:d9 (.int (lo:Int)) [.sh (.list (F.map ai)),.ow (K.map ai),a,b]=some [.sh (.list (F.map ai)),.ow (K.map ai),.sh (.int (lo:Int)),b]:=rfl
  have hfl:(F.filter fun w=>decide (w.length=lo)).length≤F.length:=List.length_filter_le _ _
  have p1:aS [none,some 2] (a8 (ae 0)) cW cY cX [.sh (.list (F.map ai)),.ow (K.map ai),.sh (.int (lo:Int)),b]=some (.ow ((F.filter fun w=>decide (w.length=lo)).map ai),[.sh (.list (F.map ai)),.ow (K.map ai),.sh (.int (lo:Int)),b]):=gf (js:=[none,some 2]) rfl (Bz lo F .no hF) (b9 _) (by rw[c_];omega)
  have c64:((F.filter fun w=>decide (w.length=lo)).map yW).length < 65536:=by rw[c_];omega
  have p2:lG (aS [none,some 2] (a8 (ae 0)) cW cY cX) [.sh (.list (F.map ai)),.ow (K.map ai),.sh (.int (lo:Int)),b]=some (.ow ((sX (F.filter fun w=>decide (w.length=lo))).map ai),[.sh (.list (F.map ai)),.ow (K.map ai),.sh (.int (lo:Int)),b]):=by
   unfold lG
   rw[p1,Option.bind_some]
   show((kX ((F.filter fun w=>decide (w.length=lo)).map ai)).bind _)=_
   rw[sK,Option.bind_some]
   show(if ((F.filter fun w=>decide (w.length=lo)).map yW).length < 65536 then _ else _)=_
   rw[if_pos c64]
   show some (Sl.ow ((jI ((F.filter fun w=>decide (w.length=lo)).map yW)).map PyData.str),_)=_
   rw[FA,List.map_map]
   rfl
  have i2:a8 (lG (aS [none,some 2] (a8 (ae 0)) cW cY cX)) [.sh (.list (F.map ai)),.ow (K.map ai),.sh (.int (lo:Int)),b]=some ((sX (F.filter fun w=>decide (w.length=lo))).map ai,[.sh (.list (F.map ai)),.ow (K.map ai),.sh (.int (lo:Int)),b]):=Il p2
  have hS:∀k∈sX (F.filter fun w=>decide (w.length=lo)),k.length≤1000:=fun k hk=>hF k (Zas.mp (srtW_mem.mp hk)).1
  simp only[lU,iK]at hl
  obtain⟨b',e⟩:=Fy (.sh (.list (F.map ai))) (.sh (.int (lo:Int))) (sX (F.filter fun w=>decide (w.length=lo))) K b hS hK (by omega)
  have st:(d9 (.int (lo:Int)) [.sh (.list (F.map ai)),.ow (K.map ai),a,b]).bind d_=some ([.sh (.list (F.map ai)),.ow ((NhFam.dE K (sX (F.filter fun w=>decide (w.length=lo)))).map ai),.sh (.int (lo:Int)),b'],.nx):=by
   rw[tg,Option.bind_some,d_]
   unfold dC
   rw[i2,Option.bind_some]
   exact e
  have:=oP (sX (F.filter fun w=>decide (w.length=lo))) K
  obtain⟨a2,b2,e2⟩:=FB F hF n (lo+1) (NhFam.dE K (sX (F.filter fun w=>decide (w.length=lo)))) (.sh (.int (lo:Int))) b' (fun k hk=>(sZ hk).elim (hK k) (hS k)) (by omega) hl2
  refine⟨a2,b2,?_⟩
  rw[j5,aX,st,lU,sY]
  exact e2
theorem wd(F:List (List Nat)){w:List Nat}:∀(n lo:Nat),w∈lU F lo n↔w∈F∧lo≤w.length∧w.length < lo+n
 | 0,lo=>by simp[lU]
 |n+1,lo=>by
  rw[lU,Zai,srtW_mem,Zas,wd F n (lo+1),decide_eq_true_iff]
  constructor
  ·rintro(⟨a,b⟩ |⟨a,b,c⟩)
   ·exact⟨a,by omega,by omega⟩
   ·exact⟨a,by omega,by omega⟩
  ·rintro⟨a,b,c⟩
   by_cases h:w.length=lo
   ·exact .inl ⟨a,h⟩
   ·exact .inr ⟨a,by omega,by omega⟩
theorem JZ{a b:List Nat}(h:a.length=b.length)(k:F9 a b=true):¬NhFam.lH b a:=fun z=>by
 have z':=NhSG.ltKy_iff.mp z
 simp only[NhFam.key]at z'
 rcases z' with z' |⟨_,z'⟩
 ·omega
 ·exact absurd z' (zz5 k)
theorem BA(F:List (List Nat)):∀(n lo:Nat),(lU F lo n).Pairwise fun a b=>¬NhFam.lH b a
 | 0,lo=>List.Pairwise.nil
 |n+1,lo=>by
  rw[lU,List.pairwise_append]
  refine⟨?_,BA F n (lo+1),fun a ha b hb=>?_⟩
  ·refine List.Pairwise.imp_of_mem (fun {a b} ha hb h=>JZ ?_ h) (List.pairwise_mergeSort uH uI _)
   have h1:=zz5 (Zas.mp (srtW_mem.mp ha)).2
   have h2:=zz5 (Zas.mp (srtW_mem.mp hb)).2
   omega
  ·have h1:=zz5 (Zas.mp (srtW_mem.mp ha)).2
   have h2:=((wd F n (lo+1)).mp hb).2.1
   exact NhFam.pf (NhFam.si (by omega))
theorem BB(F:List (List Nat)):∀(n lo:Nat),(lU F lo n).length≤(F.filter fun w=>decide (lo≤w.length)).length
 | 0,lo=>pT _
 |n+1,lo=>by
  rw[lU,iK,Fz]
  have h:=BB F n (lo+1)
  have k:∀G:List (List Nat),(G.filter fun w=>decide (w.length=lo)).length+(G.filter fun w=>decide (lo+1≤w.length)).length=(G.filter fun w=>decide (lo≤w.length)).length:=fun G=>by
   induction G with
   |nil=>rfl
   |cons w G ih=>
    simp only[wm]
    rcases Nat.lt_trichotomy w.length lo with q |q |q
    ·rw[if_neg (by simp;omega),if_neg (by simp;omega),if_neg (by simp;omega)];exact ih
    ·rw[if_pos (by simp;omega),if_neg (by simp;omega),if_pos (by simp;omega),List.length_cons,List.length_cons];omega
    ·rw[if_neg (by simp;omega),if_pos (by simp;omega),if_pos (by simp;omega),List.length_cons,List.length_cons];omega
  have:=k F
  omega
theorem FC{F:List (List Nat)}(hF:∀v∈F,NhFam.Sub U v)(hl:∀v∈F,v.length < 27):NhFam.dE [] (lU F 0 27)=NhFam.aJ F:=by
 have me:∀w,w∈lU F 0 27↔w∈F:=fun w=>(wd F 27 0).trans ⟨fun h=>h.1,fun h=>⟨h,pT _,by have:=hl w h;omega⟩⟩
 obtain⟨a,b⟩:=NhFam.kz (lU F 0 27) [] [] (fun v hv=>(hF v ((me v).mp (by simpa using hv))).1) (fun v hv=>by cases hv) (fun v hv=>by cases hv) (fun v hv=>by cases hv) (BA F 27 0) (fun v hv=>by cases hv) .nil
 have t:NhFam.Told U (NhFam.dE [] (lU F 0 27)) (NhFam.up F):=by
  refine⟨a,fun w=>(b w).trans ?_⟩
  rw[NhFam.sk hF]
  simp only[Z8,me]
 exact t.uniq (NhFam.dF hF) fun w _=>Iff.rfl
theorem LF:vv (af false (pC (.int 0)) (af false (pC (.int 27)) ao)) E=some (ko 0 27,E):=by
 simp! [if_true]
 rfl
theorem kT{F:List (List Nat)}(u:Uni U)(hF:∀v∈F,NhFam.Sub U v)(hl:F.length≤1100):bQ [.list (F.map ai)]=some (.ow ((NhFam.aJ F).map ai)):=by
 have sh:∀v∈F,v.length≤10:=fun v hv=>u.short (hF v hv)
 have cl:(lU F 0 27).length≤1100:=jS (BB F 27 0) (jS (List.length_filter_le _ _) hl)
 obtain⟨a,b,e⟩:=FB F (fun v hv=>by have:=sh v hv;omega) 27 0 [] .no .no (fun _ h=>by cases h) (by simp;omega) (by omega)
 rw[FC hF fun v hv=>by have:=sh v hv;omega]at e
 have g:bQ [.list (F.map ai)]=(iA [.sh (.list (F.map ai)),.no,.no,.no]).bind fun a=>match a.2 with |.rt r=>fE r |.nx=>some (.sh .none) |_=>none:=rfl
 have s1:aE 1 (cb bE) [.sh (.list (F.map ai)),.no,.no,.no]=some ([.sh (.list (F.map ai)),.ow [],.no,.no],.nx):=by simp! [if_true]
 have fo:dC (vv (af false (pC (.int 0)) (af false (pC (.int 27)) ao))) d9 d_ [.sh (.list (F.map ai)),.ow [],.no,.no]=some ([.sh (.list (F.map ai)),.ow ((NhFam.aJ F).map ai),a,b],.nx):=by
  unfold dC
  rw[LF,Option.bind_some]
  exact e
 have fl:=b9 (NhFam.aJ F)
 rw[g,iA,aD s1,aD fo]
 simp! [fl]
def s_(cell step:Int)(k:Nat):Nat:=97+((cell+(k:Int)*step) % 26).toNat
theorem Db(cell step:Int)(k:Nat):az (s_ cell step k):=by
 unfold s_ az
 have m0:=Int.emod_nonneg (cell+(k:Int)*step) (show(26:Int)≠0 by decide)
 have m1:=Int.emod_lt_of_pos (cell+(k:Int)*step) (show(0:Int) < 26 by decide)
 generalize (cell+(k:Int)*step) % 26=z at m0 m1
 omega
theorem we{f:aY}{w:List Nat}(hf:f E=some (.ow (w.map bZ),E))(hl:w.length≤1000000):d4 "" f E=some (.sh (ai w),E):=by
 have so:=qk w
 have l:=vZ w
 simp only[d4,mF,rO,hf,Z0,look,Sl.val,so,l,hl,if_true,Z1,sJ,ai]
def bt(v:Int)(j:Nat):Bool:=decide (Builtin.bitAnd (v / 2 ^ j) 1=1)
theorem LG(v:Int)(j:Nat)(x:Sl):eX [.sh (.int (j:Int)),x,.sh (.int v)]=some (bt v j,[.sh (.int (j:Int)),x,.sh (.int v)]):=by
 have hj:(0:Int)≤(j:Int):=by omega
 unfold bt
 simp! [eX,hj,Int.toNat_natCast]
theorem LH(U:List Nat)(j a:Nat)(x:Sl)(h:U[j]? =some a)(hl:U.length≤1000):eW [.sh (.int (j:Int)),.sh (ai U),x]=some (.sh (bZ a),[.sh (.int (j:Int)),.sh (ai U),x]):=by
 have at_:atI (⟨U.toArray⟩:Str).cps.toList (j:Int)=some a:=by rw[jb];exact h
 have lb:(⟨U.toArray⟩:Str).length≤1000000:=by rw[kR];omega
 unfold ai bZ
 simp! [eW,at_,lb]
def pP(v:Int):List Nat→Nat→List Nat
 |[],_=>[]
 |a::w,lo=>if bt v lo then a::pP v w (lo+1)else pP v w (lo+1)
theorem oQ(v:Int):∀(w:List Nat) (lo:Nat),(pP v w lo).Sublist w
 |[],_=>List.Sublist.slnil
 |a::w,lo=>by
  rw[pP]
  split
  ·exact(oQ v w _).cons₂ a
  ·exact(oQ v w _).cons a
theorem FD(v:Int)(U:List Nat)(hl:U.length≤1000):∀(w:List Nat) (lo:Nat) (x:Sl),U.drop lo=w→bT fZ eX eW (ko lo w.length) [x,.sh (ai U),.sh (.int v)]=some ((pP v w lo).map bZ)
 |[],lo,x,_=>rfl
 |a::w,lo,x,h=>by
  have hx:U[lo]? =some a:=by rw[←List.head?_drop,h];rfl
  have hw:U.drop (lo+1)=w:=by rw[←List.tail_drop,h];rfl
  have t:fZ (.int (lo:Int)) [x,.sh (ai U),.sh (.int v)]=some [.sh (.int (lo:Int)),.sh (ai U),.sh (.int v)]:=rfl
  have ih:=FD v U hl w (lo+1) (.sh (.int (lo:Int))) hw
  rw[show((lo+1:Nat):Int)=(lo:Int)+1 by omega]at ih
  have k:=Bq t (LG v lo _) (LH U lo a _ hx hl) ih
  rw[List.length_cons,j5,k,pP]
  split <;> rfl
theorem LI(v:Int)(U:List Nat)(hl:U.length≤1000)(x0 x1 x3 x4 x5 x7:Sl):d4 "" (aS [none,some 2,some 6] (ja (af false (bD fB (af false (ae 2) ao)) ao)) fZ eX eW) [x0,x1,.sh (ai U),x3,x4,x5,.sh (.int v),x7]=some (.sh (ai (pP v U 0)),[x0,x1,.sh (ai U),x3,x4,x5,.sh (.int v),x7]):=by
 have l:=sU (E:=[x0,x1,.sh (ai U),x3,x4,x5,.sh (.int v),x7]) (f:=ae 2) rfl (show U.length≤1000000 by omega)
 have i1:=wa l rfl hl
 have sl:=(oQ v U 0).length_le
 have c:=FD v U hl U 0 .no rfl
 have p1:=gf (js:=[none,some 2,some 6]) i1 c (lR _) (by rw[c_];omega)
 exact we p1 (by omega)
def Drn(U:List Nat)(O:List (List Nat)):Prop:=∀w∈O,w≠[]∧w.Sublist U
theorem Drn.app{A B:List (List Nat)}(a:Drn U A)(b:Drn U B):Drn U (A++B):=fun w h=>(Zai.mp h).elim (a w) (b w)
theorem J0(cell:Int)(k:Nat)(hk:k≤100)(x0 x1 x2 x3 x6 x7:Sl):∃v:Int,∀r:bX,aC (aE 6 (ag Eh false (ag cR false (ae 4) (pC (.int 3))) (ag ip false (pC (.int 6)) (ae 5)))) (aC (bS (dW (ag (hJ (fk .lt)) false (bD vp (af false (ae 4) ao)) (ag qC false (pC (.int 10)) (pC (.int 18))))) (aE 6 (ak b_ (af false (ae 4) (af false (ag aQ false (pC (.int 30)) (ae 5)) ao)))) aV) r) [x0,x1,x2,x3,.sh (.int cell),.sh (.int (k:Int)),x6,x7]=r [x0,x1,x2,x3,.sh (.int cell),.sh (.int (k:Int)),.sh (.int v),x7]:=by
 obtain⟨z,ez⟩:=nU cell (30+k) (by omega)
 rw[show((30+k:Nat):Int)=30+(k:Int) by omega]at ez
 have d3:kW 3=true:=by decide
 have m6:gw 6 (k:Int)=true:=kr (by decide) (by decide)
 have h6:(0:Int)≤6*(k:Int):=by omega
 obtain⟨v0,s1⟩:∃v0:Int,aE 6 (ag Eh false (ag cR false (ae 4) (pC (.int 3))) (ag ip false (pC (.int 6)) (ae 5))) [x0,x1,x2,x3,.sh (.int cell),.sh (.int (k:Int)),x6,x7]=some ([x0,x1,x2,x3,.sh (.int cell),.sh (.int (k:Int)),.sh (.int v0),x7],.nx):=by
  simp! [d3,m6,h6]
  exact⟨_,rfl⟩
 by_cases c1:(if cell < 0 then -cell else cell) < 1000000000000000000
 ·have c:dW (ag (hJ (fk .lt)) false (bD vp (af false (ae 4) ao)) (ag qC false (pC (.int 10)) (pC (.int 18)))) [x0,x1,x2,x3,.sh (.int cell),.sh (.int (k:Int)),.sh (.int v0),x7]=some (true,[x0,x1,x2,x3,.sh (.int cell),.sh (.int (k:Int)),.sh (.int v0),x7]):=by
   simp! [Int.reduceToNat,Int.reducePow,Int.reduceNeg,Int.reduceLT,Int.reduceLE,Nat.reducePow,and_self,c1]
  have ad:ag aQ false (pC (.int 30)) (ae 5) [x0,x1,x2,x3,.sh (.int cell),.sh (.int (k:Int)),.sh (.int v0),x7]=some (.sh (.int (30+(k:Int))),[x0,x1,x2,x3,.sh (.int cell),.sh (.int (k:Int)),.sh (.int v0),x7]):=jA rfl rfl
  have m:ak b_ (af false (ae 4) (af false (ag aQ false (pC (.int 30)) (ae 5)) ao)) [x0,x1,x2,x3,.sh (.int cell),.sh (.int (k:Int)),.sh (.int v0),x7]=some (.sh (.int z),[x0,x1,x2,x3,.sh (.int cell),.sh (.int (k:Int)),.sh (.int v0),x7]):=aH (ss:=[.sh (.int cell),.sh (.int (30+(k:Int)))]) (JO rfl ad) rfl ez
  have s2:bS (dW (ag (hJ (fk .lt)) false (bD vp (af false (ae 4) ao)) (ag qC false (pC (.int 10)) (pC (.int 18))))) (aE 6 (ak b_ (af false (ae 4) (af false (ag aQ false (pC (.int 30)) (ae 5)) ao)))) aV [x0,x1,x2,x3,.sh (.int cell),.sh (.int (k:Int)),.sh (.int v0),x7]=some ([x0,x1,x2,x3,.sh (.int cell),.sh (.int (k:Int)),.sh (.int z),x7],.nx):=gM c (kQ m (show 6 < 8 by decide))
  exact⟨z,fun r=>by rw[aD s1,aD s2]⟩
 ·have c:dW (ag (hJ (fk .lt)) false (bD vp (af false (ae 4) ao)) (ag qC false (pC (.int 10)) (pC (.int 18)))) [x0,x1,x2,x3,.sh (.int cell),.sh (.int (k:Int)),.sh (.int v0),x7]=some (false,[x0,x1,x2,x3,.sh (.int cell),.sh (.int (k:Int)),.sh (.int v0),x7]):=by
   simp! [Int.reduceToNat,Int.reducePow,Int.reduceNeg,Int.reduceLT,Int.reduceLE,Nat.reducePow,and_self,c1]
  have s2:bS (dW (ag (hJ (fk .lt)) false (bD vp (af false (ae 4) ao)) (ag qC false (pC (.int 10)) (pC (.int 18))))) (aE 6 (ak b_ (af false (ae 4) (af false (ag aQ false (pC (.int 30)) (ae 5)) ao)))) aV [x0,x1,x2,x3,.sh (.int cell),.sh (.int (k:Int)),.sh (.int v0),x7]=some ([x0,x1,x2,x3,.sh (.int cell),.sh (.int (k:Int)),.sh (.int v0),x7],.nx):=gP c rfl
  exact⟨v0,fun r=>by rw[aD s1,aD s2]⟩
theorem J4{f:aY}{u:List Nat}(hf:f E=some (.sh (ai u),E)):dW (ag u9 false f (pC (.str ""))) E=some (!decide (u=[]),E):=by
 have q:=Bu u
 unfold ai at hf
 simp! [hf,q]
theorem LJ(U:List Nat)(hU:U.length≤1000)(cell:Int)(k:Nat)(hk:k≤100)(x0 x1 x5 x6 x7:Sl)(F:List (List Nat))(hF:F.length≤1000):∃(O:List (List Nat)) (v o:Sl),(f8 (.int (k:Int)) [x0,x1,.sh (ai U),.ow (F.map ai),.sh (.int cell),x5,x6,x7]).bind f9=some ([x0,x1,.sh (ai U),.ow ((F++O).map ai),.sh (.int cell),.sh (.int (k:Int)),v,o],.nx)∧O.length≤1∧Drn U O:=by
 obtain⟨v,hv⟩:=J0 cell k hk x0 x1 (.sh (ai U)) (.ow (F.map ai)) x6 x7
 have s3:=kQ (i:=7) (LI v U hU x0 x1 (.ow (F.map ai)) (.sh (.int cell)) (.sh (.int (k:Int))) x7) (show 7 < 8 by decide)
 have tg:f8 (.int (k:Int)) [x0,x1,.sh (ai U),.ow (F.map ai),.sh (.int cell),x5,x6,x7]=some [x0,x1,.sh (ai U),.ow (F.map ai),.sh (.int cell),.sh (.int (k:Int)),x6,x7]:=rfl
 have c:=J4 (E:=[x0,x1,.sh (ai U),.ow (F.map ai),.sh (.int cell),.sh (.int (k:Int)),.sh (.int v),.sh (ai (pP v U 0))]) (f:=ae 7) (u:=pP v U 0) rfl
 rw[tg,Option.bind_some,f9,hv,aD s3]
 by_cases h:pP v U 0=[]
 ·rw[zz4 h]at c
  exact⟨[],_,_,by rw[oS];exact gP c rfl,by simp,fun _ h=>by cases h⟩
 ·rw[zz3 h]at c
  have b1:F.length < 1000000:=by omega
  refine⟨[pP v U 0],.sh (.int v),.sh (ai (pP v U 0)),gM c ?_,by simp,fun w hw=>?_⟩
  ·show fN (eG 3 (ae 7)) [x0,x1,.sh (ai U),.ow (F.map ai),.sh (.int cell),.sh (.int (k:Int)),.sh (.int v),.sh (ai (pP v U 0))]=_
   simp only[qK,Nat.reduceAdd,Nat.reduceSub,Nat.reduceLT,Nat.reduceLeDiff,c_,b1,tw]
  ·rw[Zaf.mp hw]
   exact⟨h,oQ v U 0⟩
theorem Im(U:List Nat)(hU:U.length≤1000)(cell:Int)(x0 x1:Sl):∀(n lo:Nat) (F:List (List Nat)) (x5 x6 x7:Sl),lo+n≤100→F.length+n≤1000→∃(O:List (List Nat)) (a v o:Sl),aX f8 f9 (ko lo n) [x0,x1,.sh (ai U),.ow (F.map ai),.sh (.int cell),x5,x6,x7]=some ([x0,x1,.sh (ai U),.ow ((F++O).map ai),.sh (.int cell),a,v,o],.nx)∧O.length≤n∧Drn U O
 | 0,lo,F,x5,x6,x7,_,_=>⟨[],x5,x6,x7,by rw[oS];rfl,gR _,fun _ h=>by cases h⟩
 |n+1,lo,F,x5,x6,x7,h1,h2=>by
  obtain⟨O,v,o,e,l,d⟩:=LJ U hU cell lo (by omega) x0 x1 x5 x6 x7 F (by omega)
  obtain⟨O2,a2,v2,o2,e2,l2,d2⟩:=Im U hU cell x0 x1 n (lo+1) (F++O) (.sh (.int (lo:Int))) v o (by omega) (by rw[iK];omega)
  rw[show((lo+1:Nat):Int)=(lo:Int)+1 by omega]at e2
  refine⟨O++O2,a2,v2,o2,?_,by rw[iK];omega,d.app d2⟩
  rw[j5,aX,e,←n8]
  exact e2
theorem Io(U:List Nat)(hU:U.length≤1000)(x0 x1:Sl):∀(cs:List Int) (F:List (List Nat)) (x4 x5 x6 x7:Sl),F.length+3*cs.length≤1000→∃(O:List (List Nat)) (b a v o:Sl),aX f_ dU (cs.map .int) [x0,x1,.sh (ai U),.ow (F.map ai),x4,x5,x6,x7]=some ([x0,x1,.sh (ai U),.ow ((F++O).map ai),b,a,v,o],.nx)∧O.length≤3*cs.length∧Drn U O
 |[],F,x4,x5,x6,x7,_=>⟨[],x4,x5,x6,x7,by rw[oS];rfl,gR _,fun _ h=>by cases h⟩
 |c::cs,F,x4,x5,x6,x7,h=>by
  simp only[Z4]at h
  have m0:=Int.emod_nonneg c (show(3:Int)≠0 by decide)
  have m1:=Int.emod_lt_of_pos c (show(0:Int) < 3 by decide)
  obtain⟨n,hn⟩:∃n:Nat,1+c % 3=n:=⟨(1+c % 3).toNat,by omega⟩
  obtain⟨O,a,v,o,e,l,d⟩:=Im U hU c x0 x1 n 0 F x5 x6 x7 (by omega) (by omega)
  have ad:ag aQ false (pC (.int 1)) (ag ef false (ae 4) (pC (.int 3))) [x0,x1,.sh (ai U),.ow (F.map ai),.sh (.int c),x5,x6,x7]=some (.sh (.int (1+c % 3)),[x0,x1,.sh (ai U),.ow (F.map ai),.sh (.int c),x5,x6,x7]):=jA rfl (lT (f:=ae 4) (g:=pC (.int 3)) (y:=3) rfl rfl (by decide))
  have st:(f_ (.int c) [x0,x1,.sh (ai U),.ow (F.map ai),x4,x5,x6,x7]).bind dU=some ([x0,x1,.sh (ai U),.ow ((F++O).map ai),.sh (.int c),a,v,o],.nx):=by
   show dU [x0,x1,.sh (ai U),.ow (F.map ai),.sh (.int c),x5,x6,x7]=_
   unfold dU dC
   rw[wa ad hn (by omega),Option.bind_some]
   exact e
  obtain⟨O2,b2,a2,v2,o2,e2,l2,d2⟩:=Io U hU x0 x1 cs (F++O) (.sh (.int c)) a v o (by rw[iK];omega)
  refine⟨O++O2,b2,a2,v2,o2,?_,by rw[iK,List.length_cons];omega,d.app d2⟩
  rw[eR,aX,st,←n8]
  exact e2
theorem yE(u:Uni U)(ns:List Int)(hl:ns.length≤63):∃O:List (List Nat),gu [.list (ns.map .int),.int 1,ai U]=some (.ow ((NhFam.aJ (O++[U])).map ai))∧Drn U O∧O.length≤192:=by
 have e0:=pL ns 1
 have uu:=u.len
 obtain⟨O,b,a,v,o,e,l,d⟩:=Io U (by omega) (.sh (.list (ns.map .int))) (.sh (.int 1)) (ns.getD 1 0::cutL ns (some (1+1)) (some (1+8))) [] .no .no .no .no (by have:=j4 ns (some (1+1)) (some (1+8));simp only[Z5,Z4];omega)
 have lc:=j4 ns (some ((1:Int)+1)) (some (1+8))
 have lb2:1+(cutL ns (some ((1:Int)+1)) (some (1+8))).length≤1000000:=by omega
 refine⟨O,?_,d,by simp only[Z4]at l;omega⟩
 have it:a8 (ag aQ false (cb (aO (ak aR (af false (ae 0) (af false (ae 1) ao))) bE)) (fP false (ae 0) (bJ (ag aQ false (ae 1) (pC (.int 1)))) (bJ (ag aQ false (ae 1) (pC (.int 8)))))) [.sh (.list (ns.map .int)),.sh (.int 1),.sh (ai U),.ow [],.no,.no,.no,.no]=some ((ns.getD 1 0::cutL ns (some (1+1)) (some (1+8))).map .int,[.sh (.list (ns.map .int)),.sh (.int 1),.sh (ai U),.ow [],.no,.no,.no,.no]):=by
  have e0':aR [.list (ns.map .int),.int 1]=some (.sh (.int (ns.getD 1 0))):=e0
  simp! [e0',c_,lb2]
 have s1:aE 3 (cb bE) [.sh (.list (ns.map .int)),.sh (.int 1),.sh (ai U),.no,.no,.no,.no,.no]=some ([.sh (.list (ns.map .int)),.sh (.int 1),.sh (ai U),.ow [],.no,.no,.no,.no],.nx):=by
  unfold ai
  simp! [if_true]
 rw[List.nil_append]at e
 have fo:dC (a8 (ag aQ false (cb (aO (ak aR (af false (ae 0) (af false (ae 1) ao))) bE)) (fP false (ae 0) (bJ (ag aQ false (ae 1) (pC (.int 1)))) (bJ (ag aQ false (ae 1) (pC (.int 8))))))) f_ dU [.sh (.list (ns.map .int)),.sh (.int 1),.sh (ai U),.ow [],.no,.no,.no,.no]=some ([.sh (.list (ns.map .int)),.sh (.int 1),.sh (ai U),.ow (O.map ai),b,a,v,o],.nx):=by
  unfold dC
  rw[it,Option.bind_some]
  exact e
 have lO:O.length≤192:=by simp only[Z4]at l;omega
 have lb3:O.length+1≤1000000:=by omega
 have p3:ag aQ false (ae 3) (cb (aO (ae 2) bE)) [.sh (.list (ns.map .int)),.sh (.int 1),.sh (ai U),.ow (O.map ai),b,a,v,o]=some (.ow ((O++[U]).map ai),[.sh (.list (ns.map .int)),.sh (.int 1),.sh (ai U),.ow (O.map ai),b,a,v,o]):=by
  simp only[qK,Nat.reduceAdd,Nat.reduceSub,Nat.reduceLT,Nat.reduceLeDiff,c_,lb3,tw]
 have pl:=kT u (F:=O++[U]) (fun w hw=>by
  rcases Zai.mp hw with q |q
  ·exact⟨List.Pairwise.sublist (d w q).2 u.srt,fun x hx=>(d w q).2.subset hx⟩
  ·rw[Zaf.mp q];exact⟨u.srt,NhFam.le.refl U⟩) (by simp;omega)
 have c4:ak bQ (af false (ag aQ false (ae 3) (cb (aO (ae 2) bE))) ao) [.sh (.list (ns.map .int)),.sh (.int 1),.sh (ai U),.ow (O.map ai),b,a,v,o]=some (.ow ((NhFam.aJ (O++[U])).map ai),[.sh (.list (ns.map .int)),.sh (.int 1),.sh (ai U),.ow (O.map ai),b,a,v,o]):=aH (ss:=[.ow ((O++[U]).map ai)]) (LA p3) rfl pl
 have g:gu [.list (ns.map .int),.int 1,ai U]=(jm [.sh (.list (ns.map .int)),.sh (.int 1),.sh (ai U),.no,.no,.no,.no,.no]).bind fun a=>match a.2 with |.rt r=>fE r |.nx=>some (.sh .none) |_=>none:=rfl
 have fl:=b9 (NhFam.aJ (O++[U]))
 rw[g,jm,aD s1,aD fo]
 simp only[aZ,c4,Z1,Z0,fE,gO,fl,if_true]
theorem FE(w:List Nat):(w.map gb).map PyData.str=w.map bZ:=by rw[List.map_map];rfl
theorem Dc{f:aY}{s:Sl}{w:List Nat}(hf:f E=some (s,E))(hs:look E s=some (.list (w.map bZ)))(h:∀y∈w,az y)(hl:w.length≤3900):d4 "" (b7 f) E=some (.sh (ai (aA w)),E):=by
 have d:=jB fun y hy=>fQ (h y hy)
 have d2:(w.map gb).length < 4000∧(jC (w.map gb)).length < 64:=⟨by rw[c_];omega,yX (oK fun y hy=>fQ (h y hy)) (by decide)⟩
 have so:=oM w
 refine we ?_ (mB w)
 unfold b7
 simp only[hf,Z0,hs,so,d2,and_self,if_true,d,FE]
theorem De{f:aY}{w:List Nat}(hf:f E=some (.sh (ai w),E))(h:∀y∈w,az y)(hl:w.length≤3900):d4 "" (b7 f) E=some (.sh (ai (aA w)),E):=by
 have d:=jB fun y hy=>fQ (h y hy)
 have d2:(w.map gb).length < 4000∧(jC (w.map gb)).length < 64:=⟨by rw[c_];omega,yX (oK fun y hy=>fQ (h y hy)) (by decide)⟩
 refine we ?_ (mB w)
 unfold b7
 unfold ai at hf
 simp only[hf,Z0,look,Sl.val,Bk,d2,and_self,if_true,d,FE]
def Hv(cell:Int)(n:Nat):List Nat:=(List.range' 0 n).map (s_ cell 3)
theorem BC(cell:Int):∀(n lo:Nat) (x:Sl),bT iZ a9 gL (ko lo n) [x,.sh (.str "abcdefghijklmnopqrstuvwxyz"),.sh (.int cell)]=some (((List.range' lo n).map (s_ cell 3)).map bZ)
 | 0,lo,x=>rfl
 |n+1,lo,x=>by
  have e:=BC cell n (lo+1) (.sh (.int lo))
  have m:gw 3 (lo:Int)=true:=kr (by omega) (by omega)
  have s:gL [.sh (.int lo),.sh (.str "abcdefghijklmnopqrstuvwxyz"),.sh (.int cell)]=some (.sh (bZ (97+((cell+3*(lo:Int)) % 26).toNat)),[.sh (.int lo),.sh (.str "abcdefghijklmnopqrstuvwxyz"),.sh (.int cell)]):=by
   simp! [gL,Int.reduceLT,m,Lk,Ew,bZ]
  rw[Int.mul_comm 3]at s
  have t:iZ (.int lo) [x,.sh (.str "abcdefghijklmnopqrstuvwxyz"),.sh (.int cell)]=some [.sh (.int lo),.sh (.str "abcdefghijklmnopqrstuvwxyz"),.sh (.int cell)]:=rfl
  rw[show((lo+1:Nat):Int)=(lo:Int)+1 by omega]at e
  rw[j5,List.range'_succ,eR,eR]
  exact kP t s e
theorem Hw(cell:Int)(n:Nat):∀a∈Hv cell n,az a:=fun a ha=>by
 obtain⟨k,_,rfl⟩:=Zay.mp ha
 exact Db cell 3 k
theorem FG(cell:Int)(n:Nat):(Hv cell n).length=n:=by simp[Hv]
theorem Hx(P:List α)(i n:Nat)(h:i+n≤P.length):cutL P (some (i:Int)) (some ((i+n:Nat):Int))=(P.drop i).take n:=by
 have l1:(P.take i).length=i:=by rw[List.length_take];omega
 have l2:((P.drop i).take n).length=n:=by rw[List.length_take,List.length_drop];omega
 refine E7 (a:=P.take i) (b:=(P.drop i).drop n) ?_ (by rw[l1]) (by rw[l1,l2];omega)
 rw[n8,List.take_append_drop,List.take_append_drop]
theorem Hy{f a b:aY}{P:List Nat}{x:Int}(hf:f E=some (.al j,E))(hj:E[j]? =some (.ow (P.map bZ)))(ha:a E=some (.sh (.int x),E))(hb:b E=some (.sh (.int y),E)):fP false f (bJ a) (bJ b) E=some (.ow ((cutL P (some x) (some y)).map bZ),E):=by
 simp! [hf,hj,ha,hb]
theorem J5(P:List Nat)(k m i n:Nat)(v:Int)(hk:k≤1000)(hi:(k:Int)*(m:Int)=(i:Int))(hn:1+v % (m:Int)=(n:Int))(m0:1≤m)(h:i+n≤P.length)(x0 x2 x4 x7:Sl):fP false (ae 3) (bJ (ag ip false (ae 5) (ae 1))) (bJ (ag aQ false (ag aQ false (ag ip false (ae 5) (ae 1)) (pC (.int 1))) (ag ef false (ae 6) (ae 1)))) [x0,.sh (.int (m:Int)),x2,.ow (P.map bZ),x4,.sh (.int (k:Int)),.sh (.int v),x7]=some (.ow (((P.drop i).take n).map bZ),[x0,.sh (.int (m:Int)),x2,.ow (P.map bZ),x4,.sh (.int (k:Int)),.sh (.int v),x7]):=by
 have mm:gw (k:Int) (m:Int)=true:=kr (by omega) (by omega)
 have a:=oJ (g:=ae 5) (f:=ae 1) (E:=[x0,.sh (.int (m:Int)),x2,.ow (P.map bZ),x4,.sh (.int (k:Int)),.sh (.int v),x7]) rfl rfl mm
 have b:=jA (jA (f:=pC (.int 1)) (y:=1) a rfl) (lT (f:=ae 6) (g:=ae 1) (E:=[x0,.sh (.int (m:Int)),x2,.ow (P.map bZ),x4,.sh (.int (k:Int)),.sh (.int v),x7]) (x:=v) (y:=(m:Int)) rfl rfl (by omega))
 have e:(i:Int)+1+v % (m:Int)=((i+n:Nat):Int):=by omega
 rw[hi]at a
 rw[hi,e]at b
 have c:=Hy (f:=ae 3) (j:=3) (P:=P) rfl rfl a b
 rw[Hx P i n h]at c
 exact c
theorem J6{f:aY}{W:List Nat}(hf:f E=some (.al j,E))(hj:E[j]? =some (.ow (W.map bZ))):fP false f (bJ (pC (.int 1))) eB E=some (.ow ((W.drop 1).map bZ),E):=by
 have c:=Cf W (k:=1) (by decide)
 rw[show(1:Int).toNat=1 from rfl]at c
 simp! [hf,hj,c]
theorem Hz{f:aY}{W:List Nat}(hf:f E=some (.al j,E))(hj:E[j]? =some (.ow (W.map bZ)))(hl:W.length≤1000000):bD fB (af false f ao) E=some (.sh (.int (W.length:Int)),E):=by
 simp! [hf,hj,c_,hl]
theorem J7{f g:aY}{W:List Nat}{n a:Nat}(hf:f E=some (.al j,E))(hj:E[j]? =some (.ow (W.map bZ)))(hg:g E=some (.sh (.int (n:Int)),E))(hn:W[n]? =some a):ag mG false f g E=some (.sh (bZ a),E):=by
 have q:atI (W.map bZ) (n:Int)=some (bZ a):=by rw[jb,List.getElem?_map,hn];rfl
 have fl:fO (bZ a)=true:=rfl
 simp! [hf,hj,hg,q,fl]
theorem HB{f g:aY}{A B:List Nat}(hf:f E=some (.ow (A.map bZ),E))(hg:g E=some (.ow (B.map bZ),E))(hl:A.length+B.length≤1000000):ag aQ false f g E=some (.ow ((A++B).map bZ),E):=by
 simp only[qK,Nat.reduceAdd,Nat.reduceSub,Nat.reduceLT,Nat.reduceLeDiff,hf,hg,c_,hl,tw]
theorem HC{f:aY}{a:Nat}(hf:f E=some (.sh (bZ a),E)):cb (aO f bE) E=some (.ow ([a].map bZ),E):=by
 unfold bZ at hf
 simp! [hf,bZ]
theorem FH(cell:Int)(m:Nat)(m0:1≤m)(m1:m≤100)(P:List Nat)(hP:P.length=2*m)(az':∀a∈P,az a)(k:Nat)(hk:k < 2)(x2 x5 x6 x7:Sl)(F:List (List Nat))(hF:F.length≤1000):∃(w:List Nat) (v o:Sl),(eN (.int (k:Int)) [.sh (.int cell),.sh (.int (m:Int)),x2,.ow (P.map bZ),.ow (F.map ai),x5,x6,x7]).bind dM=some ([.sh (.int cell),.sh (.int (m:Int)),x2,.ow (P.map bZ),.ow ((F++[aA w]).map ai),.sh (.int (k:Int)),v,o],.nx)∧w≠[]∧w.length≤m∧∀a∈w,az a:=by
 obtain⟨v,ev⟩:=nU cell (50+k) (by omega)
 rw[show((50+k:Nat):Int)=50+(k:Int) by omega]at ev
 have tg:eN (.int (k:Int)) [.sh (.int cell),.sh (.int (m:Int)),x2,.ow (P.map bZ),.ow (F.map ai),x5,x6,x7]=some [.sh (.int cell),.sh (.int (m:Int)),x2,.ow (P.map bZ),.ow (F.map ai),.sh (.int (k:Int)),x6,x7]:=rfl
 have ad:ag aQ false (pC (.int 50)) (ae 5) [.sh (.int cell),.sh (.int (m:Int)),x2,.ow (P.map bZ),.ow (F.map ai),.sh (.int (k:Int)),x6,x7]=some (.sh (.int (50+(k:Int))),[.sh (.int cell),.sh (.int (m:Int)),x2,.ow (P.map bZ),.ow (F.map ai),.sh (.int (k:Int)),x6,x7]):=jA rfl rfl
 have c6:ak b_ (af false (ae 0) (af false (ag aQ false (pC (.int 50)) (ae 5)) ao)) [.sh (.int cell),.sh (.int (m:Int)),x2,.ow (P.map bZ),.ow (F.map ai),.sh (.int (k:Int)),x6,x7]=some (.sh (.int v),[.sh (.int cell),.sh (.int (m:Int)),x2,.ow (P.map bZ),.ow (F.map ai),.sh (.int (k:Int)),x6,x7]):=aH (ss:=[.sh (.int cell),.sh (.int (50+(k:Int)))]) (JO rfl ad) rfl ev
 have s6:aE 6 (ak b_ (af false (ae 0) (af false (ag aQ false (pC (.int 50)) (ae 5)) ao))) [.sh (.int cell),.sh (.int (m:Int)),x2,.ow (P.map bZ),.ow (F.map ai),.sh (.int (k:Int)),x6,x7]=some ([.sh (.int cell),.sh (.int (m:Int)),x2,.ow (P.map bZ),.ow (F.map ai),.sh (.int (k:Int)),.sh (.int v),x7],.nx):=kQ c6 (show 6 < 8 by decide)
 have v0:=Int.emod_nonneg v (show(m:Int)≠0 by omega)
 have v1:=Int.emod_lt_of_pos v (show(0:Int) < (m:Int) by omega)
 obtain⟨n,hn⟩:∃n:Nat,1+v % (m:Int)=(n:Int):=⟨(1+v % (m:Int)).toNat,by omega⟩
 have km:k*m≤m:=by
  rcases Nat.lt_or_ge k 1 with h |h
  ·have:k=0:=by omega
   subst this
   omega
  ·have:k=1:=by omega
   subst this
   omega
 have c7:=J5 P k m (k*m) n v (by omega) (by rw[Int.natCast_mul]) hn m0 (by omega) (.sh (.int cell)) x2 (.ow (F.map ai)) x7
 have lW:((P.drop (k*m)).take n).length=n:=by rw[List.length_take,List.length_drop];omega
 have aW:∀a∈(P.drop (k*m)).take n,az a:=fun a ha=>az' a (List.mem_of_mem_drop (List.mem_of_mem_take ha))
 generalize (P.drop (k*m)).take n=W at c7 lW aW
 have s7:=jQ (i:=7) c7 (show 7 < 8 by decide)
 simp only[Z7,Z6]at s7
 have fin:∀(w:List Nat) (o:Sl),w≠[]→w.length≤m→(∀a∈w,az a)→o=.ow (w.map bZ)→fN (eG 4 (d4 "" (b7 (ae 7)))) [.sh (.int cell),.sh (.int (m:Int)),x2,.ow (P.map bZ),.ow (F.map ai),.sh (.int (k:Int)),.sh (.int v),o]=some ([.sh (.int cell),.sh (.int (m:Int)),x2,.ow (P.map bZ),.ow ((F++[aA w]).map ai),.sh (.int (k:Int)),.sh (.int v),o],.nx):=by
  intro w o _ lw aw ho
  subst ho
  have j:=Dc (E:=[.sh (.int cell),.sh (.int (m:Int)),x2,.ow (P.map bZ),.ow (F.map ai),.sh (.int (k:Int)),.sh (.int v),.ow (w.map bZ)]) (f:=ae 7) (s:=.al 7) rfl rfl aw (by omega)
  have b1:F.length < 1000000:=by omega
  generalize d4 "" (b7 (ae 7))=f at j
  simp only[qK,Nat.reduceAdd,Nat.reduceSub,Nat.reduceLT,Nat.reduceLeDiff,j,c_,b1,tw]
 have fd:=qY (E:=[.sh (.int cell),.sh (.int (m:Int)),x2,.ow (P.map bZ),.ow (F.map ai),.sh (.int (k:Int)),.sh (.int v),.ow (W.map bZ)]) (f:=ae 6) (g:=pC (.int 11)) (x:=v) (y:=11) rfl rfl (by decide)
 have md:=lT fd (g:=pC (.int 2)) (y:=2) rfl (by decide)
 have eq:=xY md (g:=pC (.int 1)) (y:=1) rfl
 by_cases h:v / 11 % 2=1
 ·rw[zz4 h]at eq
  have l7:=Hz (E:=[.sh (.int cell),.sh (.int (m:Int)),x2,.ow (P.map bZ),.ow (F.map ai),.sh (.int (k:Int)),.sh (.int v),.ow (W.map bZ)]) (f:=ae 3) (j:=3) (W:=P) rfl rfl (by omega)
  have f22:=qY (E:=[.sh (.int cell),.sh (.int (m:Int)),x2,.ow (P.map bZ),.ow (F.map ai),.sh (.int (k:Int)),.sh (.int v),.ow (W.map bZ)]) (f:=ae 6) (g:=pC (.int 22)) (x:=v) (y:=22) rfl rfl (by decide)
  have m22:=lT f22 l7 (by omega)
  have j0:=Int.emod_nonneg (v / 22) (show(P.length:Int)≠0 by omega)
  have j1:=Int.emod_lt_of_pos (v / 22) (show(0:Int) < (P.length:Int) by omega)
  obtain⟨j,hj⟩:∃j:Nat,v / 22 % (P.length:Int)=(j:Int):=⟨(v / 22 % (P.length:Int)).toNat,by omega⟩
  rw[hj]at m22
  obtain⟨a,ha⟩:∃a,P[j]? =some a:=⟨_,yN (by omega)⟩
  have ix:=J7 (f:=ae 3) (j:=3) (W:=P) rfl rfl m22 ha
  have l1:=HC ix
  have d1:=J6 (E:=[.sh (.int cell),.sh (.int (m:Int)),x2,.ow (P.map bZ),.ow (F.map ai),.sh (.int (k:Int)),.sh (.int v),.ow (W.map bZ)]) (f:=ae 7) (j:=7) (W:=W) rfl rfl
  have dl:(W.drop 1).length=n - 1:=by rw[List.length_drop];omega
  have a7:=HB d1 l1 (by simp only[Z4,Z5];omega)
  have s8:=jQ (i:=7) a7 (show 7 < 8 by decide)
  simp only[Z7,Z6]at s8
  have i8:=gM eq (a:=aE 7 (ag aQ false (fP false (ae 7) (bJ (pC (.int 1))) eB) (cb (aO (ag mG false (ae 3) (ag ef false (ag cR false (ae 6) (pC (.int 22))) (bD fB (af false (ae 3) ao)))) bE)))) (b:=aV) s8
  refine⟨W.drop 1++[a],.sh (.int v),.ow ((W.drop 1++[a]).map bZ),?_,by simp,by simp only[iK,Z4,Z5];omega,fun y hy=>?_⟩
  ·rw[tg,Option.bind_some,dM,aD s6,aD s7,aD i8]
   exact fin _ _ (by simp) (by simp only[iK,Z4,Z5];omega) (fun y hy=>by
    rcases Zai.mp hy with q |q
    ·exact aW y (List.mem_of_mem_drop q)
    ·rw[Zaf.mp q];exact az' a (List.mem_of_getElem? ha)) rfl
  ·rcases Zai.mp hy with q |q
   ·exact aW y (List.mem_of_mem_drop q)
   ·rw[Zaf.mp q];exact az' a (List.mem_of_getElem? ha)
 ·rw[zz3 h]at eq
  have i8:=gP eq (a:=aE 7 (ag aQ false (fP false (ae 7) (bJ (pC (.int 1))) eB) (cb (aO (ag mG false (ae 3) (ag ef false (ag cR false (ae 6) (pC (.int 22))) (bD fB (af false (ae 3) ao)))) bE)))) (b:=aV) (r:=some (_,.nx)) rfl
  have ne:W≠[]:=fun z=>by rw[z]at lW;simp at lW;omega
  refine⟨W,.sh (.int v),.ow (W.map bZ),?_,ne,by omega,aW⟩
  rw[tg,Option.bind_some,dM,aD s6,aD s7,aD i8]
  exact fin W _ ne (by omega) aW rfl
theorem Ao(cell:Int)(m:Nat)(m0:1≤m)(m1:m≤5):∃w1 w2:List Nat,gZ [.int cell,.int (m:Int)]=some (.ow ((NhFam.aJ [aA w1,aA w2]).map ai))∧(w1≠[]∧w1.length≤m∧∀a∈w1,az a)∧(w2≠[]∧w2.length≤m∧∀a∈w2,az a):=by
 have s2:aE 2 (pC (.str "abcdefghijklmnopqrstuvwxyz")) [.sh (.int cell),.sh (.int (m:Int)),.no,.no,.no,.no,.no,.no]=some ([.sh (.int cell),.sh (.int (m:Int)),.sh (.str "abcdefghijklmnopqrstuvwxyz"),.no,.no,.no,.no,.no],.nx):=rfl
 have mu:=oJ (g:=pC (.int 2)) (f:=ae 1) (x:=2) (y:=(m:Int)) (E:=[.sh (.int cell),.sh (.int (m:Int)),.sh (.str "abcdefghijklmnopqrstuvwxyz"),.no,.no,.no,.no,.no]) rfl rfl (kr (by decide) (by decide))
 have r3:=wa (c:=2*m) mu (by omega) (by omega)
 have e3:=BC cell (2*m) 0 .no
 simp only[Int.natCast_zero]at e3
 have p3:=gf (js:=[none,some 2,some 0]) r3 e3 (lR _) (by simp;omega)
 have s3:=jQ (i:=3) p3 (show 3 < 8 by decide)
 simp only[Z7,Z6]at s3
 have lP:=FG cell (2*m)
 have aP:=Hw cell (2*m)
 unfold Hv at lP aP
 generalize (List.range' 0 (2*m)).map (s_ cell 3)=P at s3 lP aP
 have s4:aE 4 (cb bE) [.sh (.int cell),.sh (.int (m:Int)),.sh (.str "abcdefghijklmnopqrstuvwxyz"),.ow (P.map bZ),.no,.no,.no,.no]=some ([.sh (.int cell),.sh (.int (m:Int)),.sh (.str "abcdefghijklmnopqrstuvwxyz"),.ow (P.map bZ),.ow ([].map ai),.no,.no,.no],.nx):=by
  simp! [if_true]
 obtain⟨w1,v1,o1,e1,g1⟩:=FH cell m m0 (by omega) P lP aP 0 (by decide) (.sh (.str "abcdefghijklmnopqrstuvwxyz")) .no .no .no [] (by simp)
 obtain⟨w2,v2,o2,e2,g2⟩:=FH cell m m0 (by omega) P lP aP 1 (by decide) (.sh (.str "abcdefghijklmnopqrstuvwxyz")) (.sh (.int ((0:Nat):Int))) v1 o1 ([]++[aA w1]) (by simp)
 refine⟨w1,w2,?_,g1,g2⟩
 have lo:aX eN dM (ko 0 2) [.sh (.int cell),.sh (.int (m:Int)),.sh (.str "abcdefghijklmnopqrstuvwxyz"),.ow (P.map bZ),.ow ([].map ai),.no,.no,.no]=some ([.sh (.int cell),.sh (.int (m:Int)),.sh (.str "abcdefghijklmnopqrstuvwxyz"),.ow (P.map bZ),.ow ([aA w1,aA w2].map ai),.sh (.int ((1:Nat):Int)),v2,o2],.nx):=by
  have z:ko 0 2=[PyData.int ((0:Nat):Int),PyData.int ((1:Nat):Int)]:=rfl
  rw[z,aX,e1]
  show aX eN dM [PyData.int ((1:Nat):Int)] _=_
  rw[aX,e2]
  rfl
 have it2:ja (af false (pC (.int 2)) ao) [.sh (.int cell),.sh (.int (m:Int)),.sh (.str "abcdefghijklmnopqrstuvwxyz"),.ow (P.map bZ),.ow ([].map ai),.no,.no,.no]=some (ko 0 2,[.sh (.int cell),.sh (.int (m:Int)),.sh (.str "abcdefghijklmnopqrstuvwxyz"),.ow (P.map bZ),.ow ([].map ai),.no,.no,.no]):=wa (c:=2) (f:=pC (.int 2)) (z:=2) rfl rfl (by decide)
 have fo:dC (ja (af false (pC (.int 2)) ao)) eN dM [.sh (.int cell),.sh (.int (m:Int)),.sh (.str "abcdefghijklmnopqrstuvwxyz"),.ow (P.map bZ),.ow ([].map ai),.no,.no,.no]=some ([.sh (.int cell),.sh (.int (m:Int)),.sh (.str "abcdefghijklmnopqrstuvwxyz"),.ow (P.map bZ),.ow ([aA w1,aA w2].map ai),.sh (.int ((1:Nat):Int)),v2,o2],.nx):=by
  unfold dC
  rw[it2,Option.bind_some]
  exact lo
 have uni:Uni (aA (w1++w2)):=⟨bp _,fun a ha=>by
  rcases Zai.mp (inOrd_mem.mp ha).2 with q |q
  ·exact g1.2.2 a q
  ·exact g2.2.2 a q,by
  have l:=(NhFam.df (bp (w1++w2)) (bp (w1++w2)) (NhFam.le.refl _)).length_le
  have nd:(aA (w1++w2)).Nodup:=(bp _).nodup
  have:=nd.length_le_of_subset (l₂:=w1++w2) (fun x hx=>(inOrd_mem.mp hx).2)
  rw[iK]at this
  omega⟩
 have sub:∀v∈[aA w1,aA w2],NhFam.Sub (aA (w1++w2)) v:=fun v hv=>by
  rcases Zap.mp hv with q |q
  ·subst q
   exact⟨bp _,fun x hx=>inOrd_mem.mpr ⟨(inOrd_mem.mp hx).1,Zai.mpr (.inl (inOrd_mem.mp hx).2)⟩⟩
  ·rw[Zaf.mp q]
   exact⟨bp _,fun x hx=>inOrd_mem.mpr ⟨(inOrd_mem.mp hx).1,Zai.mpr (.inr (inOrd_mem.mp hx).2)⟩⟩
 have pl:=kT uni sub (by simp)
 have c5:ak bQ (af false (ae 4) ao) [.sh (.int cell),.sh (.int (m:Int)),.sh (.str "abcdefghijklmnopqrstuvwxyz"),.ow (P.map bZ),.ow ([aA w1,aA w2].map ai),.sh (.int ((1:Nat):Int)),v2,o2]=some (.ow ((NhFam.aJ [aA w1,aA w2]).map ai),[.sh (.int cell),.sh (.int (m:Int)),.sh (.str "abcdefghijklmnopqrstuvwxyz"),.ow (P.map bZ),.ow ([aA w1,aA w2].map ai),.sh (.int ((1:Nat):Int)),v2,o2]):=aH (ss:=[.al 4]) rfl rfl pl
 have g:gZ [.int cell,.int (m:Int)]=(kf [.sh (.int cell),.sh (.int (m:Int)),.no,.no,.no,.no,.no,.no]).bind fun a=>match a.2 with |.rt r=>fE r |.nx=>some (.sh .none) |_=>none:=rfl
 have fl:=b9 (NhFam.aJ [aA w1,aA w2])
 rw[g,kf,aD s2,aD s3]
 rw[aD s4,aD fo]
 simp only[aZ,c5,Z1,Z0,fE,gO,fl,if_true]
theorem BD(f:List Nat→Nat):∀(L M:List (List Nat)),L.Nodup→(∀w∈L,w∈M)→(L.map f).sum≤(M.map f).sum
 |[],M,_,_=>pT _
 |a::L,M,n,h=>by
  have ha:=h a (g_ ..)
  have p:=(List.perm_cons_erase ha).map f
  have e:(M.map f).sum=f a+((M.erase a).map f).sum:=by
   rw[p.sum_nat,eR,List.sum_cons]
  have ih:=BD f L (M.erase a) (List.nodup_cons.mp n).2 fun w hw=>(List.mem_erase_of_ne fun z=>(List.nodup_cons.mp n).1 (by rw[←z];exact hw)).mpr (h w (gN _ hw))
  rw[eR,List.sum_cons,e]
  omega
theorem yF:∀(U:List Nat) (acc:List (List Nat)),(U.foldl (fun acc a=>acc++acc.map (· ++[a])) acc).map List.length=U.foldl (fun(acc:List Nat) _=>acc++acc.map (· +1)) (acc.map List.length)
 |[],acc=>rfl
 |a::U,acc=>by
  rw[List.foldl_cons,List.foldl_cons,yF U]
  congr 1
  rw[tw,List.map_map,List.map_map]
  congr 1
  exact List.map_congr_left fun w _=>by simp
theorem HE(h:U.length≤6):((NhFam.fV U).map sz).sum≤800:=by
 have e:(NhFam.fV U).map sz=((NhFam.fV U).map List.length).map (Ak 8):=by rw[List.map_map];rfl
 rw[e,NhFam.fV,yF]
 rcases U with _ |⟨a,_ |⟨b,_ |⟨c,_ |⟨d,_ |⟨f,_ |⟨g,_ |⟨i,U⟩⟩⟩⟩⟩⟩⟩
 all_goals first |decide |(simp only[List.foldl_cons,List.foldl_nil];decide) |(simp at h)
theorem kU{f:List Nat→Prop}(t:NhFam.Told U L f):L.Nodup:=NhFam.i5 t.srt
theorem BE(r:Rul U L)(h:U.length≤6):((mt L).map sz).sum≤800:=jS (BD sz (mt L) (NhFam.fV U) (kU r.meet) fun w hw=>(NhFam.fm r.u.srt).mpr (r.meet.sub w hw)) (HE h)
theorem Rul.of{F:List (List Nat)}(u:Uni U)(hF:∀v∈F,NhFam.Sub U v)(ne:∀v∈F,v≠[])(n0:F≠[])(hl:(NhFam.aJ F).length≤190):Rul U (NhFam.aJ F):=by
 have t:=NhFam.dF hF
 have inF:∀v∈NhFam.aJ F,v∈F:=fun v hv=>((NhFam.sk hF).mp ((t.mem v).mp hv)).1
 refine⟨u,⟨fun v hv=>(t.sub v hv).2,fun v hv=>by have:=u.short (t.sub v hv);omega,hl⟩,t.sub,sW t (NhFam.qV U F),fun v hv=>ne v (inF v hv),fun z=>?_⟩
 obtain⟨w,hw⟩:=List.exists_mem_of_ne_nil F n0
 have:=(t.up_iff (NhFam.qV U F) (hF w hw)).mpr ⟨w,hw,NhFam.le.refl w⟩
 obtain⟨v,hv,_⟩:=this
 rw[z]at hv
 cases hv
theorem Rul.shrink(r:Rul U L):Rul (aA L.flatten) L:=by
 have le_:∀v∈L,NhFam.le v (aA L.flatten):=fun v hv x hx=>inOrd_mem.mpr ⟨fQ (r.u.azw (r.sub v hv) x hx),List.mem_flatten.mpr ⟨v,hv,hx⟩⟩
 exact⟨r.u.small (mC r.u r.w),⟨le_,r.w.tl,r.w.len⟩,fun v hv=>⟨(r.sub v hv).1,le_ v hv⟩,r.least,r.ne,r.nil⟩
theorem mW(x0:Sl):∀(c:List Pc) (st:List Pc) (a b d:Sl),st.length+c.length≤100000→∃a' b' d',aX bi bj (c.map av) [x0,.ow (st.reverse.map av),a,b,d]=some ([x0,.ow ((c.foldl NH.stp st).reverse.map av),a',b',d'],.nx)
 |[],st,a,b,d,_=>⟨a,b,d,rfl⟩
 |p::c,st,a,b,d,h=>by
  have step:∃a' b' d',(bi (av p) [x0,.ow (st.reverse.map av),a,b,d]).bind bj=some ([x0,.ow ((NH.stp st p).reverse.map av),a',b',d'],.nx):=by
   cases st with
   |nil=>
    by_cases z:p.2=0
    ·simp! [bi,bj,List.reverse_nil,NH.stp,av,z]
     exact⟨_,_,_,rfl⟩
    ·simp! [bi,bj,List.reverse_nil,NH.stp,av,z]
     exact⟨_,_,_,rfl⟩
   |cons q st=>
    have lb:st.length < 1000000∧st.length+1 < 1000000:=by simp at h;omega
    by_cases e:q.1=p.1
    ·by_cases z:q.2+p.2=0
     ·simp! [bi,bj,Av,NH.stp,List.append_eq_nil_iff,reduceCtorEq,and_false,iK,c_,BN,lb]
      simp! [av,e,z]
      simp[av]
     ·simp! [bi,bj,Av,NH.stp,List.append_eq_nil_iff,reduceCtorEq,and_false,iK,c_,BN,lb]
      simp! [av,e,z,c_,BN,lb]
      simp[av]
    ·by_cases z:p.2=0
     ·simp! [bi,bj,Av,NH.stp,List.append_eq_nil_iff,reduceCtorEq,and_false,iK,c_,BN,lb]
      simp! [av,e,z]
      simp[av]
     ·simp! [bi,bj,Av,NH.stp,List.append_eq_nil_iff,reduceCtorEq,and_false,iK,c_,BN,lb]
      simp! [av,e,z,iK,c_,BN,lb]
      simp[av]
  obtain⟨a',b',d',e⟩:=step
  have ih:=mW x0 c (NH.stp st p) a' b' d' (by have:=NH.uW st p;simp at h;omega)
  obtain⟨a2,b2,d2,e2⟩:=ih
  refine⟨a2,b2,d2,?_⟩
  rw[eR,aX,e]
  exact e2
theorem tN(c:List Pc)(h:c.length≤100000):fW [.list (c.map av)]=some (.ow ((NH.short c).map av)):=by
 obtain⟨a,b,d,e⟩:=mW (.sh (.list (c.map av))) c [] .no .no .no (by simpa using h)
 simp only[List.reverse_nil,List.map_nil]at e
 simp! [fW,iT,e,Option.some.injEq]
 rfl
theorem nW(c:List Pc)(h:c.length≤100000):gj [.list (c.map av)]=some (.sh (.bool (decide (NH.short c=[])))):=by
 have e:decide (((NH.short c).length:Int)=0)=decide (NH.short c=[]):=by
  rw[Bool.eq_iff_iff]
  simp only[decide_eq_true_eq]
  rw[←List.length_eq_zero_iff]
  omega
 simp! [gj,mn,tN c h,c_,e]
def CordL(c:List Pc):Prop:=∀p∈c,az p.1∧p.2.natAbs < 2 ^ 100
theorem CordL.ok(h:CordL c):CordOk c:=fun p hp=>⟨by have:=(h p hp).1.2;omega,(h p hp).2⟩
theorem CordL.n(h:CordL c):NailsOk c:=h.ok.n
theorem CordL.az(h:CordL c):∀a∈c.map (·.1),az a:=fun a ha=>by
 obtain⟨p,hp,rfl⟩:=Zay.mp ha
 exact(h p hp).1
theorem qv:∀(c:List Pc) (x0 x1:Sl),bT ie a9 ig (c.map av) [x0,x1]=some ((c.map (·.1)).map bZ)
 |[],x0,x1=>rfl
 |p::c,x0,x1=>by
  have e:(ie (av p) [x0,x1])=some [.sh (.str ⟨#[p.1]⟩),.sh (.int p.2)]:=rfl
  have e2:ig [.sh (.str ⟨#[p.1]⟩),.sh (.int p.2)]=some (.sh (.str ⟨#[p.1]⟩),[.sh (.str ⟨#[p.1]⟩),.sh (.int p.2)]):=rfl
  rw[eR,bT,e,Option.bind_some]
  simp! [a9,e2,qv c,bZ]
theorem yG(h:CordL c)(hl:c.length≤1000):fq [.list (c.map av)]=some (.sh (.str ⟨(aA (c.map (·.1))).toArray⟩)):=by
 have k:=qv c .no .no
 have az:=fun y hy=>fQ (h.az y hy)
 have d:=jB az
 have d2:((c.map (·.1)).map gb).length < 4000∧(jC ((c.map (·.1)).map gb)).length < 64:=⟨by simp;omega,yX (oK az) (by decide)⟩
 have l:=vZ (aA (c.map (·.1)))
 have l2:=mB (c.map (·.1))
 have l3:((c.map (·.1)).map bZ).length≤1000000:=by simp;omega
 simp! [fq,kC,aS,gV,p_,k,lR,l3,b7,oM,d2,and_self,d,rO,sI,l,l2,sJ]
def stay(w:List Nat)(c:List Pc):List Pc:=c.filter fun p=> !decide (p.1∈w)
theorem wf{cd:lq}{u:Sl}(w:List Nat)(ht:∀d x,tg d [x,u]=some [.sh d,u])(hc:∀p:Pc,cd [.sh (av p),u]=some (!decide (p.1∈w),[.sh (av p),u]))(hel:∀d,el [.sh d,u]=some (.sh d,[.sh d,u])):∀(c:List Pc) (x:Sl),bT tg cd el (c.map av) [x,u]=some ((stay w c).map av)
 |[],x=>rfl
 |p::c,x=>by
  rw[eR,bT,ht,Option.bind_some,hc,Option.bind_some]
  have ih:=wf w ht hc hel c (.sh (av p))
  by_cases k:p.1∈w
  ·rw[stay,List.filter_cons_of_neg (by simpa using k)]
   simp only[k,gv]
   exact ih
  ·rw[stay,List.filter_cons_of_pos (by simpa using k)]
   simp only[k,hel,Z0,frz,ih,Z1,eR,gv]
   rfl
theorem FI{w:List Nat}(h:∀y∈w,az y){a:Nat}:a∈aA w↔a∈w:=by
 rw[inOrd_mem]
 exact⟨fun z=>z.2,fun z=>⟨fQ (h a z),z⟩⟩
theorem Aq{w:List Nat}(h:∀y∈w,az y)(c:List Pc):stay (aA w) c=stay w c:=by
 unfold stay
 congr 1
 funext p
 rw[decide_eq_decide.mpr (FI h)]
theorem Df(w:List Nat)(p:Pc):fG [.sh (av p),.sh (.str ⟨w.toArray⟩)]=some (!decide (p.1∈w),[.sh (av p),.sh (.str ⟨w.toArray⟩)]):=by
 have o:=qX w p.1
 simp! [fG,av,o,Bool.not_not]
theorem td(w:List Nat)(c:List Pc):(stay w c).length≤c.length:=List.length_filter_le _ _
theorem Ar{w:List Nat}(h:∀y∈w,az y)(hl:w.length≤1000)(c:List Pc)(hc:c.length≤1000):jj [.list (c.map av),.str ⟨w.toArray⟩]=some (.ow ((stay w c).map av)):=by
 have s:=pM h (by omega)
 have k:=wf (tg:=iU) (cd:=fG) (el:=iV) (u:=.sh (.str ⟨(aA w).toArray⟩)) (aA w) (fun _ _=>rfl) (Df (aA w)) (fun _=>rfl) c .no
 rw[Aq h]at k
 have l3:((stay w c).map av).length≤1000000:=by have:=td w c;simp;omega
 have s2:aE 2 (ak eT (af false (ae 1) ao)) [.sh (.list (c.map av)),.sh (.str ⟨w.toArray⟩),.no]=some ([.sh (.list (c.map av)),.sh (.str ⟨w.toArray⟩),.sh (.str ⟨(aA w).toArray⟩)],.nx):=by
  simp! [s]
 have g:mq=aC (aE 2 (ak eT (af false (ae 1) ao))) (aZ (aS [none,some 2] (a8 (ae 0)) iU fG iV)):=rfl
 simp only[jj,fi,vx,eZ,g,eR,List.map_nil,Z4,Z5,Nat.reduceSub,Nat.reduceAdd,Nat.zero_add,List.replicate,Z9,Z8,aD s2]
 simp! [aS,gV,p_,k,l3]
theorem pQ{w:List Nat}(h:∀y∈w,az y)(hl:w.length≤1000)(c:List Pc)(hc:c.length≤1000):cO [.list (c.map av),.str ⟨w.toArray⟩]=some (.sh (.bool (decide (NH.short (stay w c)=[])))):=by
 have k:=Ar h hl c hc
 have f:=nW (stay w c) (by have:=td w c;omega)
 simp! [cO,gc,k,f]
theorem FJ{c:List PyData→Option Sl}{g:rB}{i:Nat}(h:g E=some (ss,E))(hl:dZ E ss=some ds)(hc:c ds=some (.sh d))(hi:i < E.length)(hE:E.set i (.sh d)=E2):aE i (ak c g) E=some (E2,.nx):=by
 rw[←hE]
 exact kQ (aH h hl hc) hi
theorem pR{c:List PyData→Option Sl}{g:rB}{es:List PyData}{i:Nat}(h:g E=some (ss,E))(hl:dZ E ss=some ds)(hc:c ds=some (.ow es))(hi:i < E.length)(hE:E.set i (.ow es)=E2):aE i (ak c g) E=some (E2,.nx):=by
 rw[←hE]
 exact jQ (aH h hl hc) hi
theorem J8(hc:c.length≤1000){w:List Nat}(h:∀y∈w,az y)(hl:w.length≤1000):cE [.sh (ai w),.sh (.list (c.map av))]=some (decide (NH.short (stay w c)=[]),[.sh (ai w),.sh (.list (c.map av))]):=by
 have k:ak cO (af false (ae 1) (af false (ae 0) ao)) [.sh (ai w),.sh (.list (c.map av))]=some (.sh (.bool (decide (NH.short (stay w c)=[]))),[.sh (ai w),.sh (.list (c.map av))]):=aH (ss:=[.sh (.list (c.map av)),.sh (ai w)]) rfl rfl (pQ h hl c hc)
 unfold cE
 simp only[ir,k,Z0,look,Sl.val,qE,Z1]
theorem BF(hc:c.length≤1000):∀(F:List (List Nat)) (x:Sl),(∀w∈F,(∀y∈w,az y)∧w.length≤1000)→bT dG cE dH (F.map ai) [x,.sh (.list (c.map av))]=some ((F.filter fun w=>decide (NH.short (stay w c)=[])).map ai)
 |[],x,_=>rfl
 |w::F,x,h=>by
  have hw:=h w (g_ ..)
  have t:dG (ai w) [x,.sh (.list (c.map av))]=some [.sh (ai w),.sh (.list (c.map av))]:=rfl
  have el:dH [.sh (ai w),.sh (.list (c.map av))]=some (.sh (ai w),[.sh (ai w),.sh (.list (c.map av))]):=rfl
  rw[eR,Bq t (J8 hc hw.1 hw.2) el (BF hc F _ fun v hv=>h v (gN _ hv)),wm]
  split <;> rfl
structure FewV (V:List Nat):Prop where
 srt:NhFam.Srt V
 az:∀y∈V,az y
 len:V.length≤10
theorem FewV.sets{V:List Nat}(h:FewV V):∀w∈NhFam.fV V,(∀y∈w,Nhk54.az y)∧w.length≤1000:=fun w hw=>by
 obtain⟨s,l⟩:=(NhFam.fm h.srt).mp hw
 have:=(NhFam.df s h.srt l).length_le
 have:=h.len
 exact⟨fun y hy=>h.az y (l y hy),by omega⟩
theorem FewV.ltrs{V:List Nat}(h:FewV V):∀w∈NhFam.fV V,NH.sf w:=fun w hw a ha=>by
 have:=(h.sets w hw).1 a ha
 exact⟨this.1,this.2⟩
theorem FewV.num{V:List Nat}(h:FewV V):(NhFam.fV V).length≤1024:=by
 rw[NhFam.j9]
 have:2 ^ V.length≤2 ^ 10:=Nat.pow_le_pow_right (by decide) h.len
 omega
theorem FewV.fit{V:List Nat}(h:FewV V)(p:List Nat→Bool):Fit ((NhFam.fV V).filter p):=
 ⟨by have:=List.length_filter_le p (NhFam.fV V);have:=h.num;omega,fun w hw=>⟨h.ltrs w (Zas.mp hw).1,(h.sets w (Zas.mp hw).1).2⟩⟩
def iO(c:List Pc)(w:List Nat):Bool:=decide (NH.short (stay w c)=[])
def lX(c:List Pc)(V:List Nat):List (List Nat):=NhFam.aJ ((NhFam.fV V).filter (iO c))
theorem ti(kc:CordL c)(hc:c.length≤1000){V:List Nat}(hV:V=aA (c.map (·.1)))(f:FewV V):cI [.list (c.map av)]=some (.ow ((lX c V).map ai)):=by
 have en:fq [.list (c.map av)]=some (.sh (ai V)):=by rw[hV];exact yG kc hc
 have k1:aE 1 (ak fq (af false (ae 0) ao)) [.sh (.list (c.map av)),.no]=some ([.sh (.list (c.map av)),.sh (ai V)],.nx):=FJ (ss:=[.sh (.list (c.map av))]) rfl rfl en (show 1 < 2 by decide) rfl
 have k2:fN (ak cM (af false (ae 1) ao)) [.sh (.list (c.map av)),.sh (ai V)]=some ([.sh (.list (c.map av)),.sh (ai V)],.nx):=v_ (aH (ss:=[.sh (ai V)]) rfl rfl (mR f.len))
 have it:a8 (ak bG (af false (ae 1) ao)) [.sh (.list (c.map av)),.sh (ai V)]=some ((NhFam.fV V).map ai,[.sh (.list (c.map av)),.sh (ai V)]):=by
  have k:ak bG (af false (ae 1) ao) [.sh (.list (c.map av)),.sh (ai V)]=some (.ow ((NhFam.fV V).map ai),[.sh (.list (c.map av)),.sh (ai V)]):=aH (ss:=[.sh (ai V)]) rfl rfl (Fg V f.len)
  unfold a8
  rw[k]
  rfl
 have lp:=BF hc (NhFam.fV V) .no f.sets
 have k3:=gf (js:=[none,some 0]) it lp (b9 _) (by
  have:=List.length_filter_le (fun w=>decide (NH.short (stay w c)=[])) (NhFam.fV V)
  have:=f.num
  rw[c_]
  omega)
 have lo:=lS (f.fit (iO c))
 have k4:ak cL (af false (aS [none,some 0] (a8 (ak bG (af false (ae 1) ao))) dG cE dH) ao) [.sh (.list (c.map av)),.sh (ai V)]=some (.ow ((lX c V).map ai),[.sh (.list (c.map av)),.sh (ai V)]):=by
  refine aH (ss:=[.ow (((NhFam.fV V).filter (iO c)).map ai)]) ?_ rfl lo
  simp only[af,ao,k3,Z0,Z1,gv]
  rfl
 have g:cI [.list (c.map av)]=(fu [.sh (.list (c.map av)),.no]).bind fun a=>match a.2 with |.rt r=>fE r |.nx=>some (.sh .none) |_=>none:=rfl
 have fl:=b9 (lX c V)
 rw[g,fu,aD k1,aD k2]
 simp only[aZ,k4,Z0,Z1,fE,gO,fl,if_true]
theorem Dg(w:List Nat)(c:List Pc):stay w c=NH.de (fun n=> !decide (n∈w)) c:=rfl
theorem BG{M w:List Nat}(h:Pl M c){x:Nat}(hx:x∈M)(P:Nat→Bool)(hw:P x=false):NH.short (NH.de P c)=[]:=by
 have e:NH.de P c=NH.de (fun n=>P n&& !decide (n=x)) c:=by
  unfold NH.de
  refine List.filter_congr fun p hp=>?_
  show P p.1=(P p.1&& !decide (p.1=x))
  by_cases q:p.1=x
  ·rw[q,hw]
   rfl
  ·rw[zz3 q,Bool.not_false,Bool.and_true]
 rw[e]
 exact NH.nr P (fun n=> !decide (n=x)) (h.fall x hx)
theorem HF{M:List Nat}(h:Pl M c):NH.de (fun n=>decide (n∈M)) c=c:=List.filter_eq_self.mpr fun p hp=>zz4 (h.nails p hp)
def Sts(F:List (List Nat)):Prop:=∀M∈F,M.Nodup∧1≤M.length∧M.length≤128
theorem Sts.pl{F:List (List Nat)}(h:Sts F){M:List Nat}(hM:M∈F):Pl M (k_ 8 M):=JS 7 M (h M hM).1 (h M hM).2.1 (by have:=(h M hM).2.2;omega)
theorem wg(P:Nat→Bool):∀(F:List (List Nat)),Sts F→(∀M∈F,∃x∈M,P x=false)→NH.short (NH.de P (crd F))=[]
 |[],_,_=>rfl
 |M::F,s,h=>by
  have e:crd (M::F)=k_ 8 M++crd F:=rfl
  obtain⟨x,hx,hP⟩:=h M (g_ ..)
  have e1:NH.short (NH.de P (k_ 8 M))=NH.short ([]:List Pc):=BG (w:=[]) (s.pl (g_ ..)) hx P hP
  have e2:NH.short (NH.de P (crd F))=NH.short ([]:List Pc):=wg P F (fun v hv=>s v (gN _ hv)) fun v hv=>h v (gN _ hv)
  rw[e,NH.qf]
  exact NH.iS e1 e2
theorem BH(M:List Nat):∀(F:List (List Nat)),Sts F→F.Nodup→(∀v∈F,NhFam.le v M→v=M)→M∈F→NH.short (NH.de (fun n=>decide (n∈M)) (crd F))=NH.short (k_ 8 M)
 |[],_,_,_,h=>by cases h
 |v::F,s,n,a,h=>by
  have e:crd (v::F)=k_ 8 v++crd F:=rfl
  have n':=List.nodup_cons.mp n
  have Ds:∀u,u≠M→(NhFam.le u M→u=M)→∃x∈u,decide (x∈M)=false:=fun u hu hl=>by
   refine Classical.byContradiction fun z=>hu (hl fun x hx=>?_)
   refine Classical.byContradiction fun q=>z ⟨x,hx,zz3 q⟩
  rw[e,NH.qf]
  by_cases q:v=M
  ·subst q
   have e2:NH.short (NH.de (fun n=>decide (n∈v)) (crd F))=NH.short ([]:List Pc):=wg _ F (fun u hu=>s u (gN _ hu)) fun u hu=>Ds u (fun z=>n'.1 (by rw[←z];exact hu)) (a u (gN _ hu))
   rw[HF (s.pl (g_ ..))]
   have:=NH.iS (rfl:NH.short (k_ 8 v)=NH.short (k_ 8 v)) e2
   rwa [oS]at this
  ·have hM:M∈F:=by
    rcases Zap.mp h with z |z
    ·exact absurd z.symm q
    ·exact z
   obtain⟨x,hx,hP⟩:=Ds v q (a v (g_ ..))
   have e1:NH.short (NH.de (fun n=>decide (n∈M)) (k_ 8 v))=NH.short ([]:List Pc):=BG (w:=[]) (s.pl (g_ ..)) hx _ hP
   have e2:=BH M F (fun u hu=>s u (gN _ hu)) n'.2 (fun u hu=>a u (gN _ hu)) hM
   have:=NH.iS e1 e2
   rwa [List.nil_append]at this
theorem HG{F:List (List Nat)}(s:Sts F)(n:F.Nodup)(a:∀M∈F,∀v∈F,NhFam.le v M→v=M)(w:List Nat):NH.short (stay w (crd F))=[]↔NhFam.jg F w:=by
 constructor
 ·intro h M hM
  refine Classical.byContradiction fun z=>?_
  have dj:∀x∈M,x∉w:=fun x hx hw=>z ⟨x,hx,hw⟩
  have k:=NH.nr (fun n=>decide (n∈M)) (fun n=> !decide (n∈w)) h
  have e:(fun n=>decide (n∈M)&& !decide (n∈w))=fun n=>decide (n∈M):=by
   funext x
   by_cases q:x∈M
   ·rw[zz4 q,zz3 (dj x q)];rfl
   ·rw[zz3 q];rfl
  rw[e,BH M F s n (a M hM) hM,NH.fR,NH.pU (s.pl hM).red]at k
  exact(s.pl hM).ne k
 ·intro h
  rw[Dg]
  refine wg _ F s fun M hM=>?_
  obtain⟨x,hx,hw⟩:=h M hM
  refine⟨x,hx,?_⟩
  show(!decide (x∈w))=false
  rw[zz4 hw]
  rfl
theorem Dh{F:List (List Nat)}(s:Sts F):∀p∈crd F,p.1∈F.flatten:=fun p hp=>by
 obtain⟨M,hM,hp⟩:=List.mem_flatMap.mp hp
 exact List.mem_flatten.mpr ⟨M,hM,(s.pl hM).nails p hp⟩
theorem lY:∀(k:Nat) (w:List Nat),∀p∈k_ k w,p.2.natAbs=1
 | 0,w,p,h=>by cases h
 |k+1,w,p,h=>by
  have cn:∀c:List Pc,(∀q∈c,q.2.natAbs=1)→∀q∈NH.contr c,q.2.natAbs=1:=fun c hc q hq=>by
   obtain⟨z,hz,rfl⟩:=Zay.mp hq
   have:=hc z (List.mem_reverse.mp hz)
   show(-z.2).natAbs=1
   omega
  rw[k_]at h
  split at h
  ·obtain⟨a,_,rfl⟩:=Zay.mp h
   rfl
  ·simp only[Zai]at h
   rcases h with((h |h) |h) |h
   ·exact lY k _ p h
   ·exact lY k _ p h
   ·exact cn _ (lY k _) p h
   ·exact cn _ (lY k _) p h
theorem Rul.sts(r:Rul U L):Sts (mt L):=fun M hM=>⟨(r.meet.sub M hM).1.nodup,(r.few M hM).1,by have:=(r.few M hM).2;omega⟩
theorem Rul.anti(r:Rul U L):∀M∈mt L,∀v∈mt L,NhFam.le v M→v=M:=fun M hM v hv l=>by
 have a:=(r.meet.mem M).mp hM
 have b:=(r.meet.mem v).mp hv
 exact a.2.2 v b.1 b.2.1 l
theorem Rul.fall(r:Rul U L)(w:List Nat):NH.short (stay w (crd (mt L)))=[]↔NhFam.jg (mt L) w:=HG r.sts (kU r.meet) r.anti w
theorem Rul.back(r:Rul U L){w:List Nat}(hw:NhFam.Sub U w):NhFam.jg (mt L) w↔NhFam.up L w:=by
 have hU:=r.u.srt
 have t:=r.meet.congr (g:=NhFam.EZ U (NhFam.up L)) fun v _=>NhFam.mj r.sub
 have m:=NhFam.CT hU (NhFam.qV U L)
 rw[NhFam.mj (U:=U) (F:=mt L) (fun v hv=>r.meet.sub v hv)]
 have k:=t.up_iff m (NhFam.oC (w:=w) hU)
 unfold NhFam.EZ at k ⊢
 rw[NhFam.CQ hU hw]at k
 exact(not_congr k).trans Classical.not_not
theorem Rul.nails(r:Rul U L):∀p∈crd (mt L),p.1∈U:=fun p hp=>by
 obtain⟨M,hM,hx⟩:=List.mem_flatten.mp (Dh r.sts p hp)
 exact(r.meet.sub M hM).2 _ hx
theorem Rul.cord(r:Rul U L):CordL (crd (mt L)):=fun p hp=>⟨r.u.lt _ (r.nails p hp),by
 obtain⟨M,hM,h⟩:=List.mem_flatMap.mp hp
 rw[lY 8 M p h]
 decide⟩
theorem FK{V w:List Nat}(h:∀p∈c,p.1∈V):stay (w.filter fun x=>decide (x∈V)) c=stay w c:=by
 unfold stay
 refine List.filter_congr fun p hp=>?_
 congr 1
 refine decide_eq_decide.mpr ?_
 rw[Zas,decide_eq_true_iff]
 exact⟨fun z=>z.1,fun z=>⟨z,h p hp⟩⟩
theorem Di(r:Rul U L){V:List Nat}(hV:V=aA ((crd (mt L)).map (·.1))):lX (crd (mt L)) V=L:=by
 have hU:=r.u.srt
 have sV:NhFam.Srt V:=by rw[hV];exact bp _
 have HV:∀p∈crd (mt L),p.1∈V:=fun p hp=>by
  rw[hV]
  exact inOrd_mem.mpr ⟨fQ (r.u.lt _ (r.nails p hp)),Zay.mpr ⟨p,hp,rfl⟩⟩
 have lV:NhFam.le V U:=fun x hx=>by
  rw[hV]at hx
  obtain⟨p,hp,rfl⟩:=Zay.mp (inOrd_mem.mp hx).2
  exact r.nails p hp
 have t:NhFam.Told U (lX (crd (mt L)) V) (fun w=>NH.short (stay w (crd (mt L)))=[]):=by
  refine NhFam.sm hU sV lV (fun v w _ _ l h=>?_) (fun w=>?_) fun w _ h=>?_
  ·refine(r.fall w).mpr fun M hM=>?_
   obtain⟨x,a,b⟩:=(r.fall v).mp h M hM
   exact⟨x,a,l x b⟩
  ·rw[Zas,NhFam.fm sV]
   unfold iO
   rw[decide_eq_true_iff]
  ·show NH.short (stay _ _)=[]
   rw[FK HV]
   exact h
 have tl:=NhFam.dF r.sub
 rw[r.least]at tl
 exact t.uniq tl fun w hw=>(r.fall w).trans (r.back hw)
theorem FL(r:Rul U L){V:List Nat}(hV:V=aA ((crd (mt L)).map (·.1))):FewV V:=by
 have lV:NhFam.le V U:=fun x hx=>by
  rw[hV]at hx
  obtain⟨p,hp,rfl⟩:=Zay.mp (inOrd_mem.mp hx).2
  exact r.nails p hp
 have sV:NhFam.Srt V:=by rw[hV];exact bp _
 exact⟨sV,r.u.azw ⟨sV,lV⟩,r.u.short ⟨sV,lV⟩⟩
theorem wj(r:Rul U L)(h8:((mt L).map sz).sum≤800):cI [.list ((crd (mt L)).map av)]=some (.ow (L.map ai)):=by
 have:=ti r.cord (by rw[wc];omega) rfl (FL r rfl)
 rwa [Di r rfl]at this
theorem pS{V:List Nat}:NhFam.xI V (fun w=>NH.short (stay w c)=[]):=fun v w _ _ l h=>by
 have e:stay w c=NH.de (fun n=>(!decide (n∈w))&&(!decide (n∈v))) c:=by
  show List.filter _ c=List.filter _ c
  congr 1
  funext p
  by_cases a:p.1∈v
  ·simp[a,l _ a]
  ·simp[a]
 show NH.short (stay w c)=[]
 rw[e]
 exact NH.nr (fun n=> !decide (n∈w)) (fun n=> !decide (n∈v)) h
theorem Dj{V:List Nat}(sV:NhFam.Srt V):NhFam.Told V (lX c V) (fun w=>NH.short (stay w c)=[]):=by
 refine NhFam.sm sV sV (NhFam.le.refl V) pS (fun w=>?_) fun w hw h=>?_
 ·rw[Zas,NhFam.fm sV]
  unfold iO
  rw[decide_eq_true_iff]
 ·have e:(w.filter fun x=>decide (x∈V))=w:=List.filter_eq_self.mpr fun x hx=>zz4 (hw.2 x hx)
  rw[e]
  exact h
theorem Dk{V:List Nat}{f:List Nat→Prop}(sV:NhFam.Srt V)(t:NhFam.Told V L f)(h8:V.length≤8):L.length≤190:=by
 cases V with
 |nil=>
  have:=mD L (NhFam.fV []) (NhFam.i5 t.srt) fun w hw=>(NhFam.fm sV).mpr (t.sub w hw)
  rw[NhFam.j9]at this
  have e:2 ^ ([]:List Nat).length=1:=rfl
  omega
 |cons x V=>
  have sV':NhFam.Srt V:=(List.pairwise_cons.mp sV).2
  have mc:∀(w:List Nat) (y:Nat),y∈w.filter (fun y=> !decide (y=x))↔y∈w∧y≠x:=fun w y=>by simp
  have inj:∀v∈L,∀w∈L,v.filter (fun y=> !decide (y=x))=w.filter (fun y=> !decide (y=x))→v=w:=fun v hv w hw e=>by
   have mv:=(t.mem v).mp hv
   have mw:=(t.mem w).mp hw
   by_cases xw:x∈w
   ·refine mw.2.2 v mv.1 mv.2.1 fun y hy=>?_
    by_cases yx:y=x
    ·rw[yx]
     exact xw
    ·have:=(mc v y).mpr ⟨hy,yx⟩
     rw[e]at this
     exact((mc w y).mp this).1
   ·refine(mv.2.2 w mw.1 mw.2.1 fun y hy=>?_).symm
    have:=(mc w y).mpr ⟨hy,fun z=>xw (z▸hy)⟩
    rw[←e]at this
    exact((mc v y).mp this).1
  have nd:(L.map fun w=>w.filter (fun y=> !decide (y=x))).Nodup:=List.pairwise_map.mpr ((NhFam.i5 t.srt).imp_of_mem fun {a b} ha hb n e=>n (inj a ha b hb e))
  have:=mD _ (NhFam.fV V) nd fun w hw=>by
   obtain⟨v,hv,rfl⟩:=Zay.mp hw
   refine(NhFam.fm sV').mpr ⟨(t.sub v hv).1.filter _,fun y hy=>?_⟩
   obtain⟨a,b⟩:=(mc v y).mp hy
   exact(Zap.mp ((t.sub v hv).2 y a)).resolve_left b
  rw[NhFam.j9,c_]at this
  have p:2 ^ V.length≤2 ^ 7:=Nat.pow_le_pow_right (by decide) (by simp only[Z4]at h8;omega)
  omega
theorem FM{body:bX}(h:it E=some (ds,E1))(l:aX tg body ds E1=some (E2,.nx)):dC it tg body E=some (E2,.nx):=by
 unfold dC
 rw[h,Option.bind_some,l]
theorem jG(c:List Pc):bg (c.map av)=true:=by
 induction c with
 |nil=>rfl
 |cons p c ih=>simp only[eR,bg,ih,av,fO,Bool.and_true,Bool.and_self]
theorem CordL.append{d:List Pc}(h:CordL c)(h':CordL d):CordL (c++d):=fun p hp=>(Zai.mp hp).elim (h p) (h' p)
theorem CordL.contr(h:CordL c):CordL (NH.contr c):=fun p hp=>by
 unfold NH.contr at hp
 obtain⟨q,hq,rfl⟩:=Zay.mp hp
 have:=h q (List.mem_reverse.mp hq)
 exact⟨this.1,by show(-q.2).natAbs < _;rw[Int.natAbs_neg];exact this.2⟩
theorem CordL.cutL(h:CordL c)(lo hi:Option Int):CordL (cutL c lo hi):=fun p hp=>h p (rL hp)
theorem uJ:CordL []:=fun _ z=>by cases z
def CordI(I:Nat→Prop)(c:List Pc):Prop:=∀p∈c,I p.1∧p.2.natAbs < 2 ^ 100
theorem CordI.append{I:Nat→Prop}{d:List Pc}(h:CordI I c)(h':CordI I d):CordI I (c++d):=fun p hp=>(Zai.mp hp).elim (h p) (h' p)
theorem LK(i:Int):az (l4 i):=by
 unfold l4 az
 rcases i.toNat with _ |_ |_ |_ |j <;> simp
theorem mX(cell:Int)(x2 x3:Sl):∀(n lo:Nat) (dv:Int) (c:List Pc) (a b:Sl),lo+n≤1000→c.length+n≤1000→CordL c→
  ∃(rest':Int) (c':List Pc) (a' b':Sl),aX bV bW (ko lo n) [.sh (.int cell),.sh (.int dv),x2,x3,.ow (c.map av),a,b]=some ([.sh (.int cell),.sh (.int rest'),x2,x3,.ow (c'.map av),a',b'],.nx)∧c'.length=c.length+n∧CordL c'
 | 0,lo,dv,c,a,b,_,_,hN=>⟨dv,c,a,b,rfl,rfl,hN⟩
 |n+1,lo,dv,c,a,b,h1,h2,hN=>by
  obtain⟨z,ez⟩:=nU cell lo (by omega)
  have dd:kW 4=true∧kW 28=true:=by decide
  have step:∃v:Int,(bV (.int lo) [.sh (.int cell),.sh (.int dv),x2,x3,.ow (c.map av),a,b]).bind bW=some ([.sh (.int cell),.sh (.int (dv / 28)),x2,x3,.ow ((c++[((l4 (v % 4),v / 4 % 7 - 3):Pc)]).map av),.sh (.int lo),.sh (.int v)],.nx):=by
   have lb:c.length < 1000000:=by omega
   by_cases c1:(if cell < 0 then -cell else cell) < 1000000000000000000
   ·refine⟨z,?_⟩
    simp! [bV,bW,Int.reduceToNat,Int.reducePow,Int.reduceNeg,Int.reduceLT,Int.reduceLE,Nat.reducePow,and_self,ez,dd.1,dd.2,c_,lb,vH,oA,av,c1]
   ·by_cases c2: -28 < dv
    ·by_cases c3:dv < 28
     ·refine⟨z,?_⟩
      simp! [bV,bW,Int.reduceToNat,Int.reducePow,Int.reduceNeg,Int.reduceLT,Int.reduceLE,Nat.reducePow,and_self,ez,dd.1,dd.2,c_,lb,vH,oA,av,c1,c2,c3]
     ·refine⟨dv,?_⟩
      simp! [bV,bW,Int.reduceToNat,Int.reducePow,Int.reduceNeg,Int.reduceLT,Int.reduceLE,Nat.reducePow,and_self,ez,dd.1,dd.2,c_,lb,vH,oA,av,c1,c2,c3]
    ·refine⟨dv,?_⟩
     simp! [bV,bW,Int.reduceToNat,Int.reducePow,Int.reduceNeg,Int.reduceLT,Int.reduceLE,Nat.reducePow,and_self,ez,dd.1,dd.2,c_,lb,vH,oA,av,c1,c2]
  obtain⟨v,e⟩:=step
  obtain⟨r',c',a',b',e2,l2,n2⟩:=mX cell x2 x3 n (lo+1) (dv / 28) (c++[((l4 (v % 4),v / 4 % 7 - 3):Pc)]) (.sh (.int lo)) (.sh (.int v)) (by omega) (by simp;omega) (hN.append fun p hp=>by rw[Zaf.mp hp];exact⟨LK _,by show(v / 4 % 7 - 3).natAbs < 2 ^ 100;have:=Int.emod_nonneg (v / 4) (show(7:Int)≠0 by decide);have:=Int.emod_lt_of_pos (v / 4) (show(0:Int) < 7 by decide);omega⟩)
  refine⟨r',c',a',b',?_,by rw[l2];simp;omega,n2⟩
  rw[j5,aX,e]
  exact e2
theorem jR(cell:Int):∃c:List Pc,cc [.int cell]=some (.ow (c.map av))∧c.length≤12∧CordL c:=by
 have dd:kW 5=true∧kW 26=true∧kW 13=true:=by decide
 have mm:gw 2 1000000000000000000000000000000=true:=kr (by decide) (by decide)
 by_cases c5:cell % 5=2
 ·refine⟨[((97+(cell / 5 % 26).toNat,cell / 5 / 26 % (2*10 ^ 30 - 1) - (10 ^ 30 - 1)):Pc)],?_,by simp,fun p hp=>?_⟩
  ·simp! [cc,gI,Int.reduceToNat,Int.reducePow,Int.reduceNeg,Int.reduceLT,Int.reduceLE,Int.reduceMul,Int.reduceSub,Nat.reducePow,and_self,dd.1,dd.2.1,dd.2.2,mm,c5,Lk,Ew,av]
  ·rw[Zaf.mp hp]
   have:=Int.emod_lt_of_pos (cell / 5) (show(0:Int) < 26 by decide)
   have h2:=Int.emod_nonneg (cell / 5 / 26) (show(2*10 ^ 30 - 1:Int)≠0 by decide)
   have h3:=Int.emod_lt_of_pos (cell / 5 / 26) (show(0:Int) < 2*10 ^ 30 - 1 by decide)
   refine⟨?_,?_⟩
   ·show 97≤97+(cell / 5 % 26).toNat∧97+(cell / 5 % 26).toNat < 123
    omega
   ·show(cell / 5 / 26 % (2*10 ^ 30 - 1) - (10 ^ 30 - 1)).natAbs < 2 ^ 100
    generalize cell / 5 / 26 % (2*10 ^ 30 - 1)=z at h2 h3
    omega
 ·have m0:=Int.emod_nonneg (cell / 5) (show(13:Int)≠0 by decide)
  have m1:=Int.emod_lt_of_pos (cell / 5) (show(0:Int) < 13 by decide)
  obtain⟨r',c',a',b',e,l,n⟩:=mX cell .no (.sh (.int (cell / 5 % 13))) (cell / 5 % 13).toNat 0 (cell / 5 / 13) [] .no .no (by omega) (by simp;omega) uJ
  refine⟨c',?_,by rw[l];simp;omega,n⟩
  have hb: -1000000≤cell / 5 % 13∧cell / 5 % 13≤1000000:=by omega
  simp only[List.map_nil,Int.natCast_zero]at e
  simp! [cc,gI,Int.reduceLT,dd.1,dd.2.1,dd.2.2,c5,hb,and_self,e]
theorem qw(s0 s1 s2:Sl)(most:Int)(hm0:0≤most)(hm:most≤1000):∀(zs:List Int) (c:List Pc) (a b d:Sl),(c.length:Int)≤most→CordL c→
  ∃(c':List Pc) (a' b' d':Sl),aX bK bL (zs.map .int) [s0,s1,s2,.sh (.int most),.ow (c.map av),a,b,d]=some ([s0,s1,s2,.sh (.int most),.ow (c'.map av),a',b',d'],.nx)∧(c'.length:Int)≤most∧CordL c'
 |[],c,a,b,d,h,hN=>⟨c,a,b,d,rfl,h,hN⟩
 |z::zs,c,a,b,d,h,hN=>by
  have step:∃(c':List Pc) (a' b' d':Sl),(bK (.int z) [s0,s1,s2,.sh (.int most),.ow (c.map av),a,b,d]).bind bL=some ([s0,s1,s2,.sh (.int most),.ow (c'.map av),a',b',d'],.nx)∧(c'.length:Int)≤most∧CordL c':=by
   have hp:0 < (c.length:Int)+1:=by omega
   have k0:0≤z / 5 % ((c.length:Int)+1):=Int.emod_nonneg _ (by omega)
   have d5:kW 5=true:=by decide
   generalize hk:z / 5 % ((c.length:Int)+1)=k at k0
   have l1:=j4 c (some k) none
   have l2:=j4 c none (some k)
   by_cases c3:z % 5=3
   ·have e1:=iJ (cutL c (some k) none) (by omega)
    have lb:c.length+(NH.contr (cutL c (some k) none)).length≤1000000:=by rw[NH.bC];omega
    obtain⟨a1,b1,d1,e⟩:∃a1 b1 d1,(bK (.int z) [s0,s1,s2,.sh (.int most),.ow (c.map av),a,b,d]).bind bL=some ([s0,s1,s2,.sh (.int most),.ow ((cutL (c++NH.contr (cutL c (some k) none)) none (some most)).map av),a1,b1,d1],.nx):=by
     simp only[bK,aK,Z4,Z5,Nat.reduceAdd,Nat.reduceLT,Z7,Z6,bL,ef,cR,iM,Z0,aC,aE,ag,ae,Z3,Z2,Sl.isBr,pC,hJ,look,Sl.val,yS,d5,Z1,bD,af,ao,fB,aQ,oh,tB,dZ,c_,hp,hk,PL.settle,frz,frzAll,bS,dW,ak,fP,bJ,eB,Int.reduceLT,c3,iP,Option.any_some,lB,jc,Bool.or_true,e1,lb,←tw,gv]
     exact⟨_,_,_,rfl⟩
    exact⟨_,a1,b1,d1,e,mf _ hm0,(hN.append (hN.cutL _ _).contr).cutL _ _⟩
   ·by_cases c4:z % 5=4
    ·obtain⟨p,ep,lp,np⟩:=jR (z / 5)
     have e1:=iJ p (by omega)
     have lb:p.length+(NH.contr p).length≤1000000:=by rw[NH.bC];omega
     have lb2:(cutL c none (some k)).length+(p++NH.contr p).length≤1000000:=by rw[iK,NH.bC];omega
     have lb3:(cutL c none (some k)++(p++NH.contr p)).length+(cutL c (some k) none).length≤1000000:=by rw[iK,iK,NH.bC];omega
     obtain⟨a1,b1,d1,e⟩:∃a1 b1 d1,(bK (.int z) [s0,s1,s2,.sh (.int most),.ow (c.map av),a,b,d]).bind bL=some ([s0,s1,s2,.sh (.int most),.ow ((cutL (cutL c none (some k)++(p++NH.contr p)++cutL c (some k) none) none (some most)).map av),a1,b1,d1],.nx):=by
      simp only[bK,aK,Z4,Z5,Nat.reduceAdd,Nat.reduceLT,Z7,Z6,bL,ef,cR,iM,Z0,aC,aE,ag,ae,Z3,Z2,Sl.isBr,pC,hJ,look,Sl.val,yS,d5,Z1,bD,af,ao,fB,aQ,oh,tB,dZ,c_,hp,hk,PL.settle,frz,frzAll,bS,dW,ak,fP,bJ,eB,Int.reduceLT,c4,iP,Int.reduceEq,Option.any_some,lB,jc,Bool.or_true,ep,e1,lb,←tw,lb2,lb3,gv]
      exact⟨_,_,_,rfl⟩
     exact⟨_,a1,b1,d1,e,mf _ hm0,(((hN.cutL _ _).append (np.append np.contr)).append (hN.cutL _ _)).cutL _ _⟩
    ·obtain⟨p,ep,lp,np⟩:=jR z
     have lb:c.length+p.length≤1000000:=by omega
     obtain⟨a1,b1,d1,e⟩:∃a1 b1 d1,(bK (.int z) [s0,s1,s2,.sh (.int most),.ow (c.map av),a,b,d]).bind bL=some ([s0,s1,s2,.sh (.int most),.ow ((cutL (c++p) none (some most)).map av),a1,b1,d1],.nx):=by
      simp only[bK,aK,Z4,Z5,Nat.reduceAdd,Nat.reduceLT,Z7,Z6,bL,ef,cR,iM,Z0,aC,aE,ag,ae,Z3,Z2,Sl.isBr,pC,hJ,look,Sl.val,yS,d5,Z1,bD,af,ao,fB,aQ,oh,tB,dZ,c_,hp,hk,PL.settle,frz,frzAll,bS,dW,ak,fP,bJ,eB,Int.reduceLT,iP,c3,Option.any_some,lB,jc,Bool.or_true,c4,ep,lb,←tw,gv]
      exact⟨_,_,_,rfl⟩
     exact⟨_,a1,b1,d1,e,mf _ hm0,(hN.append np).cutL _ _⟩
  obtain⟨c1,a1,b1,d1,e,l1,n1⟩:=step
  obtain⟨c',a',b',d',e2,l2,n2⟩:=qw s0 s1 s2 most hm0 hm zs c1 a1 b1 d1 l1 n1
  refine⟨c',a',b',d',?_,l2,n2⟩
  rw[eR,aX,e]
  exact e2
theorem yH(ns:List Int)(first last most:Int)(h0:0≤first)(hm0:0≤most)(hm:most≤1000)(hl:ns.length≤63):∃c:List Pc,fv [.list (ns.map .int),.int first,.int last,.int most]=some (.ow (c.map av))∧(c.length:Int)≤most∧CordL c:=by
 obtain⟨k,rfl⟩:∃k:Nat,first=k:=⟨first.toNat,by omega⟩
 have e0:=pL ns k
 obtain⟨c,a,b,d,e,l,n⟩:=qw (.sh (.list (ns.map .int))) (.sh (.int k)) (.sh (.int last)) most hm0 hm (ns.getD k 0::cutL ns (some ((k:Int)+1)) (some last)) [] .no .no .no (by simpa using hm0) uJ
 have lb:=j4 ns (some ((k:Int)+1)) (some last)
 have lb2:1+(cutL ns (some ((k:Int)+1)) (some last)).length≤1000000:=by omega
 simp only[List.map_nil,eR]at e
 refine⟨c,?_,l,n⟩
 simp! [fv,kD,e0,c_,lb2,e]
def few(N:List Nat)(p:Pc):Pc:=(N.getD ((p.1 - 97) % N.length) 0,p.2)
theorem J9:∀a∈List.range' 97 26,Builtin.Str.occurrences (Str.ofString "abcdefghijklmnopqrstuvwxyz") ⟨#[a]⟩ 0 (Str.ofString "abcdefghijklmnopqrstuvwxyz").length 1=[a - 97]:=by decide+kernel
theorem J_{i:Nat} {f:aY} {a:Nat} (ha:az a) (hi:E[i]? =some (.sh (.str "abcdefghijklmnopqrstuvwxyz"))) (hf:f E=some (.sh (.str ⟨#[a]⟩),E)):zZ i f E=some (.sh (.int ((a - 97:Nat):Int)),E):=by
 unfold zZ
 rw[hi]
 simp only[hf,Z0,look,Sl.val,J9 a (fQ ha)]
theorem Ka{f g:aY}{N:List Nat}{n:Nat}(hf:f E=some (.sh (ai N),E))(hg:g E=some (.sh (.int (n:Int)),E))(hn:n < N.length)(hl:N.length≤1000):ag mG false f g E=some (.sh (bZ (N.getD n 0)),E):=by
 have e:atI N (n:Int)=some (N.getD n 0):=by
  rw[zK (by omega),Int.toNat_natCast,yN hn,List.getD_eq_getElem?_getD,yN hn]
  rfl
 have l:(⟨N.toArray⟩:Str).length≤1000000:=by rw[kR];omega
 have t:(⟨N.toArray⟩:Str).cps.toList=N:=by simp
 simp only[ag,mG,hf,hg,Z0,look,Sl.val,ai,l,t,e,Z1,gv]
 rfl
theorem HH{f:aY}{N:List Nat}(hf:f E=some (.sh (ai N),E))(hl:N.length≤1000):bD fB (af false f ao) E=some (.sh (.int (N.length:Int)),E):=by
 have l:N.length≤1000000:=by omega
 simp! [hf,ai,kR,l]
theorem Kb(x0:Sl)(N:List Nat)(h0:0 < N.length)(hl:N.length≤1000)(p:Pc)(hp:az p.1)(acc:List Pc)(ha:acc.length < 1000000)(a b:Sl):(fI (av p) [x0,.sh (ai N),.sh (.str "abcdefghijklmnopqrstuvwxyz"),.ow (acc.map av),a,b]).bind fJ=some ([x0,.sh (ai N),.sh (.str "abcdefghijklmnopqrstuvwxyz"),.ow ((acc++[few N p]).map av),.sh (bZ p.1),.sh (.int p.2)],.nx):=by
 have t:fI (av p) [x0,.sh (ai N),.sh (.str "abcdefghijklmnopqrstuvwxyz"),.ow (acc.map av),a,b]=some [x0,.sh (ai N),.sh (.str "abcdefghijklmnopqrstuvwxyz"),.ow (acc.map av),.sh (bZ p.1),.sh (.int p.2)]:=rfl
 have i1:zZ 2 (ae 4) [x0,.sh (ai N),.sh (.str "abcdefghijklmnopqrstuvwxyz"),.ow (acc.map av),.sh (bZ p.1),.sh (.int p.2)]=some (.sh (.int ((p.1 - 97:Nat):Int)),[x0,.sh (ai N),.sh (.str "abcdefghijklmnopqrstuvwxyz"),.ow (acc.map av),.sh (bZ p.1),.sh (.int p.2)]):=J_ hp rfl rfl
 have l1:bD fB (af false (ae 1) ao) [x0,.sh (ai N),.sh (.str "abcdefghijklmnopqrstuvwxyz"),.ow (acc.map av),.sh (bZ p.1),.sh (.int p.2)]=some (.sh (.int (N.length:Int)),[x0,.sh (ai N),.sh (.str "abcdefghijklmnopqrstuvwxyz"),.ow (acc.map av),.sh (bZ p.1),.sh (.int p.2)]):=HH rfl hl
 have m1:=lT i1 l1 (by omega)
 rw[show((p.1 - 97:Nat):Int) % (N.length:Int)=(((p.1 - 97) % N.length:Nat):Int) by omega]at m1
 have x1:=Ka (f:=ae 1) (N:=N) rfl m1 (Nat.mod_lt _ h0) hl
 rw[t,Option.bind_some,fJ]
 generalize ag mG false (ae 1) (ag ef false (zZ 2 (ae 4)) (bD fB (af false (ae 1) ao)))=f at x1
 simp only[qK,Nat.reduceAdd,Nat.reduceSub,Nat.reduceLT,Nat.reduceLeDiff,x1,c_,ha,tw,eR,List.map_nil]
 rfl
theorem FN(x0:Sl)(N:List Nat)(h0:0 < N.length)(hl:N.length≤1000):∀(c acc:List Pc) (a b:Sl),CordL c→acc.length+c.length≤1000→∃a' b',aX fI fJ (c.map av) [x0,.sh (ai N),.sh (.str "abcdefghijklmnopqrstuvwxyz"),.ow (acc.map av),a,b]=some ([x0,.sh (ai N),.sh (.str "abcdefghijklmnopqrstuvwxyz"),.ow ((acc++c.map (few N)).map av),a',b'],.nx)
 |[],acc,a,b,_,_=>⟨a,b,by rw[List.map_nil,List.map_nil,oS];rfl⟩
 |p::c,acc,a,b,hc,l=>by
  simp only[Z4]at l
  have st:=Kb x0 N h0 hl p (hc p (g_ ..)).1 acc (by omega) a b
  obtain⟨a',b',e⟩:=FN x0 N h0 hl c (acc++[few N p]) (.sh (bZ p.1)) (.sh (.int p.2)) (fun q hq=>hc q (gN _ hq)) (by simp;omega)
  refine⟨a',b',?_⟩
  have ee:acc++(p::c).map (few N)=acc++[few N p]++c.map (few N):=by simp
  rw[eR,aX,st,ee]
  exact e
theorem FO(N:List Nat)(h0:0 < N.length)(hl:N.length≤1000)(hc:CordL c)(l:c.length≤1000):fz [.list (c.map av),ai N]=some (.ow ((c.map (few N)).map av)):=by
 obtain⟨a,b,e⟩:=FN (.sh (.list (c.map av))) N h0 hl c [] .no .no hc (by simpa using l)
 have g:fz [.list (c.map av),ai N]=(kb [.sh (.list (c.map av)),.sh (ai N),.no,.no,.no,.no]).bind fun a=>match a.2 with |.rt r=>fE r |.nx=>some (.sh .none) |_=>none:=rfl
 have s1:aE 2 (pC (.str "abcdefghijklmnopqrstuvwxyz")) [.sh (.list (c.map av)),.sh (ai N),.no,.no,.no,.no]=some ([.sh (.list (c.map av)),.sh (ai N),.sh (.str "abcdefghijklmnopqrstuvwxyz"),.no,.no,.no],.nx):=rfl
 have s2:aE 3 (cb bE) [.sh (.list (c.map av)),.sh (ai N),.sh (.str "abcdefghijklmnopqrstuvwxyz"),.no,.no,.no]=some ([.sh (.list (c.map av)),.sh (ai N),.sh (.str "abcdefghijklmnopqrstuvwxyz"),.ow [],.no,.no],.nx):=rfl
 have s3:dC (a8 (ae 0)) fI fJ [.sh (.list (c.map av)),.sh (ai N),.sh (.str "abcdefghijklmnopqrstuvwxyz"),.ow [],.no,.no]=some ([.sh (.list (c.map av)),.sh (ai N),.sh (.str "abcdefghijklmnopqrstuvwxyz"),.ow ((c.map (few N)).map av),a,b],.nx):=FM rfl e
 have fl:=jG (c.map (few N))
 rw[g,kb,aD s1,aD s2,aD s3]
 simp only[qK,Nat.reduceAdd,Nat.reduceSub,Nat.reduceLT,Nat.reduceLeDiff,fl]
structure Nms (N:List Nat):Prop where
 pos:0 < N.length
 len:N.length≤8
 srt:NhFam.Srt N
 az:∀a∈N,az a
theorem nms5:Nms [98,100,109,120,121]:=⟨by decide,by decide,by unfold NhFam.Srt;decide,by unfold az;decide⟩
theorem M3:Nms [98,100,102,104,107,109,120,121]:=⟨by decide,by decide,by unfold NhFam.Srt;decide,by unfold az;decide⟩
theorem Nv:(Str.ofString "bdmxy")=(⟨[98,100,109,120,121].toArray⟩:Str):=by decide+kernel
theorem NL:(Str.ofString "bdfhkmxy")=(⟨[98,100,102,104,107,109,120,121].toArray⟩:Str):=by decide+kernel
theorem Kc{N:List Nat}(h:Nms N)(p:Pc):(few N p).1∈N:=by
 have:=Nat.mod_lt (p.1 - 97) h.pos
 show N.getD _ 0∈N
 rw[List.getD_eq_getElem?_getD,yN this]
 exact List.getElem_mem ..
theorem CordI.l{N:List Nat}(h:Nms N)(k:CordI (· ∈N) c):CordL c:=fun p hp=>⟨h.az _ (k p hp).1,(k p hp).2⟩
theorem LL{N:List Nat}(h:Nms N)(k:CordI (· ∈N) c):(aA (c.map (·.1))).length≤8:=jS (NhFam.df (bp _) h.srt fun x hx=>by
 obtain⟨p,hp,rfl⟩:=Zay.mp (inOrd_mem.mp hx).2
 exact(k p hp).1).length_le h.len
theorem yI:∀(c:List Pc) (x:Sl),bT fK a9 eM (c.map av) [x]=some ((c.map (·.1)).map bZ)
 |[],x=>rfl
 |p::c,x=>by
  have t:fK (av p) [x]=some [.sh (av p)]:=rfl
  have e:eM [.sh (av p)]=some (.sh (bZ p.1),[.sh (av p)]):=by
   dsimp! [eM,av,bZ]
  exact kP t e (yI c _)
theorem Dl(h:CordL c)(hl:c.length≤1000){V:List Nat}(hV:V=aA (c.map (·.1)))(y1 y2 y3:Sl):b7 (aS [none] (a8 (ae 0)) fK a9 eM) [.sh (.list (c.map av)),y1,y2,y3]=some (.ow (V.map bZ),[.sh (.list (c.map av)),y1,y2,y3]):=by
 have az:=fun y hy=>fQ (h.az y hy)
 have d:=jB az
 have d2:((c.map (·.1)).map gb).length < 4000∧(jC ((c.map (·.1)).map gb)).length < 64:=⟨by simp;omega,yX (oK az) (by decide)⟩
 have it:a8 (ae 0) [.sh (.list (c.map av)),y1,y2,y3]=some (c.map av,[.sh (.list (c.map av)),y1,y2,y3]):=by simp! [if_true]
 have k:=gf (js:=[none]) it (yI c .no) (lR _) (by simp;omega)
 unfold b7
 rw[k,hV]
 simp only[Z0,look,Sl.val,oM,d2,and_self,if_true,d]
 rw[List.map_map]
 rfl
theorem LM(w:List Nat)(p:Pc):dL [.sh (av p),.sh (.str ⟨w.toArray⟩)]=some (!decide (p.1∈w),[.sh (av p),.sh (.str ⟨w.toArray⟩)]):=by
 have o:=qX w p.1
 simp! [dL,av,o,Bool.not_not]
theorem FP{w:List Nat}(h:NailsOk c):NailsOk (stay w c):=fun p hp=>h p (Zas.mp hp).1
theorem tj(c:List Pc):NH.rk c=NH.short c:=(NH.fR c).symm
theorem Kd(kc:NailsOk c)(hc:c.length≤1000)(x1:Sl){K:List (List Nat)}(lK:K.length≤5000)(w:List Nat)(a:Sl):(gJ (ai w) [.sh (.list (c.map av)),x1,.ow (K.map ai),a]).bind gK=
  some ([.sh (.list (c.map av)),x1,.ow ((if iO c w then K++[w]else K).map ai),.sh (ai w)],.nx):=by
 have tg:gJ (ai w) [.sh (.list (c.map av)),x1,.ow (K.map ai),a]=some [.sh (.list (c.map av)),x1,.ow (K.map ai),.sh (ai w)]:=rfl
 generalize hE:[Sl.sh (.list (c.map av)),x1,Sl.ow (K.map ai),Sl.sh (ai w)]=E at tg
 have v1:a8 (ae 0) E=some (c.map av,E):=by subst hE;rfl
 have sl:gV [none,some 3] E=[.no,.sh (ai w)]:=by subst hE;rfl
 have ls:=td w c
 have k2:=gf (js:=[none,some 3]) v1 (by rw[sl];exact wf (tg:=fL) (cd:=dL) (el:=fM) (u:=.sh (ai w)) w (fun _ _=>rfl) (LM w) (fun _=>rfl) c .no) (jG _) (by rw[c_];omega)
 have sh:=qr (stay w c) (by omega) (FP kc)
 rw[tj]at sh
 have c2:ak cm (af false (aS [none,some 3] (a8 (ae 0)) fL dL fM) ao) E=some (.ow ((NH.short (stay w c)).map av),E):=by
  refine aH (ss:=[.ow ((stay w c).map av)]) ?_ rfl sh
  simp only[af,ao,k2,Z0,Z1,gv]
 have en:=kt (FP (w:=w) kc).short
 have c3:dW (ag iM false (ak cm (af false (aS [none,some 3] (a8 (ae 0)) fL dL fM) ao)) (cb bE)) E=some (iO c w,E):=by
  generalize ak cm (af false (aS [none,some 3] (a8 (ae 0)) fL dL fM) ao)=f at c2 ⊢
  simp! [c2,en,iO]
 rw[tg,Option.bind_some,gK]
 by_cases q:iO c w=true
 ·rw[q]at c3 ⊢
  rw[if_pos rfl]
  refine gM c3 ?_
  subst hE
  have b1:K.length < 1000000:=by omega
  simp only[qK,Nat.reduceAdd,Nat.reduceSub,Nat.reduceLT,Nat.reduceLeDiff,c_,b1,tw]
 ·rw[show iO c w=false by simpa using q]at c3 ⊢
  refine gP c3 ?_
  subst hE
  rfl
theorem As(kc:NailsOk c)(hc:c.length≤1000)(x1:Sl):∀(S K:List (List Nat)) (a:Sl),K.length+S.length≤5000→
  ∃a',aX gJ gK (S.map ai) [.sh (.list (c.map av)),x1,.ow (K.map ai),a]=some ([.sh (.list (c.map av)),x1,.ow ((K++S.filter (iO c)).map ai),a'],.nx)
 |[],K,a,_=>⟨a,by rw[List.filter_nil,oS];rfl⟩
 |w::S,K,a,hl=>by
  rw[List.length_cons]at hl
  have st:=Kd kc hc x1 (K:=K) (by omega) w a
  by_cases q:iO c w=true
  ·rw[if_pos q]at st
   obtain⟨a',e⟩:=As kc hc x1 S (K++[w]) (.sh (ai w)) (by simp;omega)
   refine⟨a',?_⟩
   rw[n8,List.singleton_append]at e
   rw[eR,aX,st,wm,if_pos q]
   exact e
  ·rw[if_neg q]at st
   obtain⟨a',e⟩:=As kc hc x1 S K (.sh (ai w)) (by omega)
   refine⟨a',?_⟩
   rw[eR,aX,st,wm,if_neg q]
   exact e
theorem FQ(w:List Nat)(hw:w.length≤10):gr [.list (w.map bZ)]=some (.ow ((qL w).map ai)):=by
 have p:2 ^ w.length≤2 ^ 10:=Nat.pow_le_pow_right (by decide) hw
 obtain⟨a,e⟩:=Aj (.sh (.list (w.map bZ))) w [[]] 0 .no (by simp;omega) (by omega) (fun u hu=>by rw[Zaf.mp hu];simp)
 have fl:=b9 (qL w)
 unfold qL at fl ⊢
 have s1:aE 1 (cb (aO (pC (.str "")) bE)) [.sh (.list (w.map bZ)),.no,.no]=some ([.sh (.list (w.map bZ)),.ow (([[]]:List (List Nat)).map ai),.no],.nx):=rfl
 have fo:dC (a8 (ae 0)) dR dS [.sh (.list (w.map bZ)),.ow (([[]]:List (List Nat)).map ai),.no]=some ([.sh (.list (w.map bZ)),.ow ((w.foldl (fun acc a=>acc++acc.map (· ++[a])) [[]]).map ai),a],.nx):=by
  unfold dC
  exact e
 have g:gr [.list (w.map bZ)]=(gk [.sh (.list (w.map bZ)),.no,.no]).bind fun a=>match a.2 with |.rt r=>fE r |.nx=>some (.sh .none) |_=>none:=rfl
 rw[g,gk,aD s1,aD fo]
 simp! [fl]
theorem At(kc:CordL c)(hc:c.length≤1000){V:List Nat}(hV:V=aA (c.map (·.1)))(f:FewV V)(u:Uni V):gm [.list (c.map av)]=some (.ow ((lX c V).map ai)):=by
 have so:=Dl kc hc hV .no .no .no
 have k1:aE 1 (b7 (aS [none] (a8 (ae 0)) fK a9 eM)) [.sh (.list (c.map av)),.no,.no,.no]=some ([.sh (.list (c.map av)),.ow (V.map bZ),.no,.no],.nx):=jQ so (show 1 < 4 by decide)
 have k2:aE 2 (cb bE) [.sh (.list (c.map av)),.ow (V.map bZ),.no,.no]=some ([.sh (.list (c.map av)),.ow (V.map bZ),.ow (([]:List (List Nat)).map ai),.no],.nx):=rfl
 have it:a8 (ak gr (af false (ae 1) ao)) [.sh (.list (c.map av)),.ow (V.map bZ),.ow (([]:List (List Nat)).map ai),.no]=some ((qL V).map ai,[.sh (.list (c.map av)),.ow (V.map bZ),.ow (([]:List (List Nat)).map ai),.no]):=
  Il (aH (ss:=[.al 1]) rfl rfl (FQ V u.len))
 have nA:(qL V).length≤1024:=f.num
 obtain⟨a,e⟩:=As kc.n hc (.ow (V.map bZ)) (qL V) [] .no (by simp only[Z5];omega)
 have fo:=FM it e
 have hF:∀v∈(NhFam.fV V).filter (iO c),NhFam.Sub V v:=fun v hv=>(NhFam.fm u.srt).mp (Zas.mp hv).1
 have le:=kT u hF (by have:=Bs u (iO c);omega)
 have g:gm [.list (c.map av)]=(ke [.sh (.list (c.map av)),.no,.no,.no]).bind fun a=>match a.2 with |.rt r=>fE r |.nx=>some (.sh .none) |_=>none:=rfl
 rw[List.nil_append]at fo
 have k4:ak bQ (af false (ae 2) ao) [.sh (.list (c.map av)),.ow (V.map bZ),.ow (((qL V).filter (iO c)).map ai),a]=some (.ow ((lX c V).map ai),[.sh (.list (c.map av)),.ow (V.map bZ),.ow (((qL V).filter (iO c)).map ai),a]):=aH (ss:=[.al 2]) rfl rfl le
 have fl:=b9 (lX c V)
 rw[g,ke,aD k1,aD k2,aD fo]
 generalize ak bQ (af false (ae 2) ao)=ff at k4 ⊢
 simp! [aZ,k4,fl]
theorem LN:List.lookup ("NoRule":Str) [(("NoRule":Str),false)]=some false:=by decide+kernel
theorem Ke:List.lookup ("NoRule":Str) [(("NoRule":Str),true)]=some true:=by decide+kernel
theorem LO:(List.countP id [false,false,true,false,false,false,false,false,false,false]:Nat)=1:=by decide
theorem LP:List.findIdx id [false,false,true,false,false,false,false,false,false,false]=2:=by decide
theorem yJ:iz [Cw "NoRule"]=some (.sh (.str "rule")):=by
 have d1:(2:Nat) < 10:=by decide
 simp only[iz,fi,Cw,Z4,Z5,vx,kF,aC,aE,cb,aO,mF,ae,eZ,eR,List.map_nil,Nat.reduceSub,List.replicate,Z9,Z8,Z2,look,Sl.val,lE,nu,Z0,LN,Z1,frz,lI,nv,nw,bE,Ke,Nat.reduceAdd,Nat.reduceLeDiff,PL.settle,frzAll,Nat.reduceLT,Z7,Z6,ag,Sl.isBr,ny,nz,nC,aQ,oh,tB,kA,lJ,lM,bS,qD,iN,ir,jh,dW,qT,pC,u9,hJ,aZ,aV,qU,mG,Z3,Option.any_some,qE,hW,LO,Int.cast_ofNat_Int,iP,LP,and_self,Ic,fE,gO,fO,gv]
theorem HI(hc:c.length≤1000)(h:NH.short c=[]):cq [.list (c.map av)]=some (.sh (.str "rule")):=by
 have k:=nW c (by omega)
 rw[zz4 h]at k
 have e:eL [.list (c.map av)]=some ("NoRule":Str):=by
  simp only[eL,ka,Ko,Ll,AZ,qK,Nat.reduceAdd,Nat.reduceSub,Nat.reduceLT,Nat.reduceLeDiff,k]
 have r:r_ eL (af false (ae 0) ao) [.sh (.list (c.map av)),.ow [],.no]=some (("NoRule":Str),([.sh (.list (c.map av)),.ow [],.no]:List Sl)):=by
  simp only[r_,qK,Nat.reduceAdd,Nat.reduceSub,Nat.reduceLT,Nat.reduceLeDiff,e]
 have o:=yJ
 simp only[Cw]at o
 simp only[cq,jn,qK,Nat.reduceAdd,Nat.reduceSub,Nat.reduceLT,Nat.reduceLeDiff,EF,r,o,Cw,Zap,List.not_mem_nil,or_false,true_and]
theorem yK(hc:c.length≤1000)(h:NH.short c≠[])(f:cI [.list (c.map av)]=some (.ow (L.map ai))):cq [.list (c.map av)]=some (.ow (L.map ai)):=by
 have k:=nW c (by omega)
 rw[zz3 h]at k
 have e:eL [.list (c.map av)]=none:=by
  simp only[eL,ka,Ko,Ll,AZ,qK,Nat.reduceAdd,Nat.reduceSub,Nat.reduceLT,Nat.reduceLeDiff,k]
 have fl:=b9 L
 have e2:jl [.list (c.map av)]=some (.ow (L.map ai)):=by
  simp only[jl,ms,qK,Nat.reduceAdd,Nat.reduceSub,Nat.reduceLT,Nat.reduceLeDiff,k,f,fl]
 have r:r_ eL (af false (ae 0) ao) [.sh (.list (c.map av)),.ow [],.no]=none:=by
  simp only[r_,qK,Nat.reduceAdd,Nat.reduceSub,Nat.reduceLT,Nat.reduceLeDiff,e]
 simp only[cq,jn,qK,Nat.reduceAdd,Nat.reduceSub,Nat.reduceLT,Nat.reduceLeDiff,EF,r,e2,fl]
theorem Rul.weigh(r:Rul U L)(h8:U.length≤8)(h12:L.flatten.length≤12):((mt L).map sz).sum≤800:=by
 have b:=NhTr.Gz (Ak 8) 8 0 12 U L (mt L) h8 (fun S hS=>⟨(r.sub S hS).1.nodup,(r.sub S hS).2⟩) h12 (fun T hT=>by
  obtain⟨sT,fT,mT⟩:=(r.meet.mem T).mp hT
  refine⟨sT.1.nodup,fT,fun y hy=>?_⟩
  have nt:¬NhFam.jg L (T.filter fun z=> !decide (z=y)):=fun q=>by
   have e:=mT _ ⟨sT.1.filter _,fun z hz=>sT.2 z (Zas.mp hz).1⟩ q fun z hz=>(Zas.mp hz).1
   rw[←e]at hy
   simpa using(Zas.mp hy).2
  obtain⟨S,hS⟩:=Classical.not_forall.mp nt
  obtain⟨hS,n⟩:=Classical.not_imp.mp hS
  have one:∀z∈S,z∈T→z=y:=fun z hz zT=>Classical.byContradiction fun q=>n ⟨z,hz,Zas.mpr ⟨zT,by simpa using q⟩⟩
  obtain⟨z,hz,zT⟩:=fT S hS
  exact⟨S,hS,one z hz zT▸hz,one⟩) ((kU r.meet).imp_of_mem fun {A B} hA hB n q=>n ((r.meet.sub A hA).1.ext (r.meet.sub B hB).1 (fun x h=>(q x).mp h) fun x h=>(q x).mpr h))
 have g:NhTr.G (Ak 8) 8 0 12≤800:=by decide+kernel
 refine jS ?_ (jS b g)
 unfold NhTr.W sz
 exact Nat.le_of_eq (congrArg List.sum (List.map_congr_left fun T _=>by rw[Nat.zero_add]))
theorem Rul.few8(r:Rul U L)(h8:U.length≤8)(h:L.flatten.length≤12∨(aA L.flatten).length≤5):((mt L).map sz).sum≤800:=
 h.elim (r.weigh h8) fun h=>BE r.shrink (by omega)
theorem uK(c:List Pc):stay [] c=c:=List.filter_eq_self.mpr fun p _=>by simp
theorem FR{V:List Nat}(hV:V=aA (c.map (·.1)))(kc:CordL c)(u:Uni V)(h8:V.length≤8)(hn:NH.short c≠[]):Rul V (lX c V):=by
 have t:=Dj (c:=c) u.srt
 refine⟨u,⟨fun v hv=>(t.sub v hv).2,fun v hv=>by have:=u.short (t.sub v hv);omega,Dk u.srt t h8⟩,t.sub,sW t pS,fun v hv z=>?_,fun z=>?_⟩
 ·subst z
  have:NH.short (stay [] c)=[]:=((t.mem []).mp hv).2.1
  rw[uK]at this
  exact hn this
 ·have f:NH.short (stay V c)=[]:=by
   have:stay V c=[]:=List.filter_eq_nil_iff.mpr fun p hp=>by
    have:p.1∈V:=by rw[hV];exact inOrd_mem.mpr ⟨fQ (kc p hp).1,List.mem_map_of_mem hp⟩
    simp[this]
   rw[this]
   rfl
  obtain⟨v,hv,_⟩:=(t.up_iff pS ⟨u.srt,NhFam.le.refl V⟩).mpr f
  rw[z]at hv
  cases hv
theorem Rul.hangs(r:Rul U L):NH.short (crd (mt L))≠[]:=fun z=>by
 have m:=(r.fall []).mp (by rw[uK];exact z)
 have up:NhFam.jg L U:=fun v hv=>by
  obtain⟨x,hx⟩:=List.exists_mem_of_ne_nil v (r.ne v hv)
  exact⟨x,hx,(r.sub v hv).2 x hx⟩
 obtain⟨T,hT,_⟩:=NhFam.nj U.length U (gR _) ⟨r.u.srt,NhFam.le.refl U⟩ up
 obtain⟨x,_,q⟩:=m T ((r.meet.mem T).mpr hT)
 cases q
theorem Dm(r:Rul U L)(h8:((mt L).map sz).sum≤800):cq [.list ((crd (mt L)).map av)]=some (.ow (L.map ai)):=
 yK (by rw[wc];omega) r.hangs (wj r h8)
structure Crd (c:List Pc):Prop where
 l:CordL c
 n:c.length≤1000
 v:(aA (c.map (·.1))).length≤8
theorem Crd.u(h:Crd c):Uni (aA (c.map (·.1))):=⟨bp _,fun a ha=>by
 have:=(List.mem_range'_1.mp (inOrd_mem.mp ha).1)
 exact⟨this.1,by omega⟩,by have:=h.v;omega⟩
theorem Crd.f(h:Crd c):FewV (aA (c.map (·.1))):=⟨h.u.srt,h.u.lt,h.u.len⟩
theorem HJ{f:aY}(hc:NailsOk c)(hf:f E=some (.ow (c.map av),E)):dW (ag iM false f (cb bE)) E=some (decide (c=[]),E):=by
 have q:=kt hc
 simp! [hf,q]
theorem Kf{f g:aY}(hc:NailsOk c)(hf:f E=some (s1,E))(hg:g E=some (s2,E))(l1:look E s1=some (.list (c.map av)))(l2:look E s2=some (.list (c.map av))):dW (ag u9 false f g) E=some (false,E):=by
 have q:=r8 hc hc
 simp only[decide_true]at q
 simp only[dW,ag,hf,hg,Z0,l1,l2,u9,hJ,q,Z1,gv]
theorem Au{f g:aY}(hf:f E=some (s1,E))(hg:g E=some (s2,E))(l1:look E s1=some d)(l2:look E s2=some d)(q:AM d d=some true):ag iM false f g E=some (.sh (.bool true),E):=by
 simp only[ag,hf,hg,Z0,l1,l2,iM,hJ,q,Z1,gv]
theorem HK{f:aY}{s:Sl}(hf:f E=some (s,E))(hs:look E s=some (.list (c.map av))):rF f E=some (.ow (c.map av),E):=by
 have fl:=jG c
 simp only[rF,hf,Z0,hs,fl,Bool.or_true,if_true]
theorem yL{f:aY}{s:Sl}(hf:f E=some (s,E))(hs:look E s=some (.list (L.map ai)))(hl:L.flatten.length≤1000000):d4 "" f E=some (.sh (ai L.flatten),E):=by
 have so:=pN L
 have l:=yA L
 simp only[d4,mF,rO,hf,Z0,hs,so,l,hl,if_true,Z1,Bp,ai]
theorem FS{f g:aY}{x:Int}(hf:f E=some (.sh (.int x),E))(hg:g E=some (.sh (.int y),E)):ag (hJ (fk .gt)) false f g E=some (.sh (.bool (decide (y < x))),E):=by
 simp! [hf,hg]
theorem qQ{f:aY}{b:Bool}(h:f E=some (.sh (.bool b),E)):dW f E=some (b,E):=by
 simp only[dW,h,Z0]
def Kg(w:List Nat):PyData:=.int (w.length:Int)
theorem FT(l:List (List Nat)):bg (l.map Kg)=true:=by
 induction l with
 |nil=>rfl
 |cons a l ih=>show(fO (Kg a)&&bg (l.map Kg))=true;rw[ih];rfl
theorem BI:∀l:List (List Nat),qa (l.map Kg)=some (l.map fun w=>(w.length:Int))
 |[]=>rfl
 |a::l=>by
  show(qa (l.map Kg)).map ((a.length:Int):: ·)=_
  rw[BI l]
  rfl
theorem FU:∀l:List (List Nat),(l.map fun w=>(w.length:Int)).sum=(l.flatten.length:Int)
 |[]=>rfl
 |a::l=>by
  rw[eR,List.sum_cons,FU l,List.flatten_cons,iK]
  omega
theorem Ip:∀(L:List (List Nat)) (x:Sl),(∀w∈L,w.length≤1000)→bT jr a9 jt (L.map ai) [x]=some (L.map Kg)
 |[],x,_=>rfl
 |w::L,x,h=>by
  have t:jr (ai w) [x]=some [.sh (ai w)]:=rfl
  have e:jt [.sh (ai w)]=some (.sh (Kg w),[.sh (ai w)]):=sU (w:=w) rfl (by have:=h w (g_ ..);omega)
  exact kP t e (Ip L _ fun v hv=>h v (gN _ hv))
theorem HL{w:List Nat}(h:∀y∈w,az y):(jC (lj ⟨w.toArray⟩)).length=(aA w).length:=by
 have e:=congrArg List.length (jB fun y hy=>fQ (h y hy))
 rw[mi,c_]at e
 rw[Bk]
 exact e
theorem Do{f:aY}{w:List Nat}(hf:f E=some (.sh (ai w),E))(h:∀y∈w,az y)(hl:w.length < 4000):jJ f E=some (.sh (.int ((aA w).length:Int)),E):=by
 have l:(lj (⟨w.toArray⟩:Str)).length < 4000:=by rw[Bk,c_];exact hl
 simp only[jJ,hf,Z0,look,ai,Sl.val,l,if_true,HL h]
abbrev M4:bX:=aE 6 (rF (ae 2))
abbrev L6:bX:=aE 7 (ak cq (af false (ae 6) ao))
abbrev M5:bX:=bS (dW (ag iM false (ak cm (af false (ae 2) ao)) (cb bE)))
 (aZ (rE (ag iM false (ae 7) (pC (.str "rule"))) (ag iM false (ae 6) (ae 2))))
 aV
abbrev M6:bX:=bS (qD (iN (ir (mF (vq .list) (ae 7)))) (qD (dW (ag u9 false (ae 7) (ak gm (af false (ae 2) ao)))) (dW (ag u9 false (ae 6) (ae 2)))))
 (aZ (pC (.bool false)))
 aV
abbrev M7:bX:=bS (dW (ag (hJ (fk .gt)) false (bD rQ (af false (aS [none] (rK (ae 7)) jr a9 jt) ao)) (ag qB false (pC (.int 18)) (ag ip false (pC (.int 6)) (bD vB (af false (ag (hJ (fk .gt)) false (jJ (d4 "" (ae 7))) (pC (.int 5))) ao))))))
 (aZ (pC (.bool true)))
 aV
abbrev Nw:bX:=aZ (ag iM false (ak cq (af false (ak eK (af false (ae 7) ao)) ao)) (ae 7))
theorem FV{f:aY}(h:f E=some (.sh (.bool true),E)):aZ f E=some (E,.rt (.sh (.bool true))):=by
 unfold aZ
 rw[h]
 rfl
theorem FW{f g:bX}{r:Sl}(h:f E=some (E1,.rt r)):aC f g E=some (E1,.rt r):=by
 unfold aC
 rw[h]
 rfl
theorem BJ(h:Crd c)(hE:E[2]? =some (.ow (c.map av))):dW (ag iM false (ak cm (af false (ae 2) ao)) (cb bE)) E=some (decide (NH.short c=[]),E):=by
 have sh:=qr c (by have:=h.n;omega) h.l.n
 rw[tj]at sh
 have v:ae 2 E=some (.al 2,E):=by simp only[ae,hE,Z0]
 exact HJ h.l.n.short (aH (ss:=[.al 2]) (LA v) (by simp only[dZ,wb hE,Z0,Z1]) sh)
theorem HM(r:Rul U L)(hE:E[7]? =some (.ow (L.map ai))):∃b,dW (ag (hJ (fk .gt)) false (bD rQ (af false (aS [none] (rK (ae 7)) jr a9 jt) ao)) (ag qB false (pC (.int 18)) (ag ip false (pC (.int 6)) (bD vB (af false (ag (hJ (fk .gt)) false (jJ (d4 "" (ae 7))) (pC (.int 5))) ao))))) E=some (b,E)∧(b=false→L.flatten.length≤12∨(aA L.flatten).length≤5):=by
 have v:ae 7 E=some (.al 7,E):=by simp only[ae,hE,Z0]
 have lk:=wb hE
 have l10:∀w∈L,w.length≤10:=fun w hw=>r.u.short (r.sub w hw)
 have aL:∀y∈L.flatten,az y:=fun y hy=>by
  obtain⟨w,hw,h⟩:=List.mem_flatten.mp hy
  exact r.u.azw (r.sub w hw) y h
 have fl:L.flatten.length≤3800:=by
  have a:=sM (W:=L) fun w hw=>by have:=l10 w hw;omega
  have b:=r.w.len
  omega
 have it:rK (ae 7) E=some (L.map ai,E):=by simp only[rK,v,Z0,lk]
 have p:=gf (js:=[none]) (c:=a9) it (Ip L .no fun w hw=>by have:=l10 w hw;omega) (FT _) (by rw[c_];have:=r.w.len;omega)
 have c1:bD rQ (af false (aS [none] (rK (ae 7)) jr a9 jt) ao) E=some (.sh (.int (L.flatten.length:Int)),E):=by
  simp only[bD,af,ao,p,Z0,Z1,dZ,look,Sl.val,rQ,BI,FU,gv]
 have j:=yL v lk (by omega)
 have g1:=FS (g:=pC (.int 5)) (y:=5) (Do j aL (by omega)) rfl
 have i1:bD vB (af false (ag (hJ (fk .gt)) false (jJ (d4 "" (ae 7))) (pC (.int 5))) ao) E=some (.sh (.int (if decide ((5:Int) < (aA L.flatten).length)then 1 else 0)),E):=by
  generalize ag (hJ (fk .gt)) false (jJ (d4 "" (ae 7))) (pC (.int 5))=f at g1 ⊢
  simp only[bD,af,ao,g1,Z0,Z1,dZ,look,Sl.val,vB,gv]
 have m1:=oJ (g:=pC (.int 6)) (x:=6) rfl i1 (by split <;> decide)
 have s1:=JP (f:=pC (.int 18)) (x:=18) rfl m1
 refine⟨_,qQ (FS c1 s1),fun q=>?_⟩
 have q:=of_decide_eq_false q
 by_cases z:(5:Int) < (aA L.flatten).length
 ·rw[zz4 z,if_pos rfl]at q
  left
  omega
 ·right
  omega
theorem tail(h:Crd c)(s0 s1 s3 s4 s5:Sl):∃E',aC M4 (aC L6 (aC M5 (aC M6 (aC M7 Nw)))) [s0,s1,.ow (c.map av),s3,s4,s5,.no,.no]=some (E',.rt (.sh (.bool true))):=by
 have k1:M4 [s0,s1,.ow (c.map av),s3,s4,s5,.no,.no]=some ([s0,s1,.ow (c.map av),s3,s4,s5,.ow (c.map av),.no],.nx):=jQ (HK (s:=.al 2) rfl rfl) (show 6 < 8 by decide)
 rw[aD k1]
 by_cases hf:NH.short c=[]
 ·have k2:L6 [s0,s1,.ow (c.map av),s3,s4,s5,.ow (c.map av),.no]=some ([s0,s1,.ow (c.map av),s3,s4,s5,.ow (c.map av),.sh (.str "rule")],.nx):=FJ (ss:=[.al 6]) rfl rfl (HI h.n hf) (show 7 < 8 by decide) rfl
  rw[aD k2]
  have k3:=BJ (E:=[s0,s1,.ow (c.map av),s3,s4,s5,.ow (c.map av),.sh (.str "rule")]) h rfl
  rw[zz4 hf]at k3
  have q:=r8 h.l.n h.l.n
  rw[zz4 rfl]at q
  have e1:=Au (f:=ae 7) (g:=pC (.str "rule")) (E:=[s0,s1,.ow (c.map av),s3,s4,s5,.ow (c.map av),.sh (.str "rule")]) (s1:=.sh (.str "rule")) (s2:=.sh (.str "rule")) (d:=.str "rule") rfl rfl rfl rfl rfl
  have e2:=Au (f:=ae 6) (g:=ae 2) (E:=[s0,s1,.ow (c.map av),s3,s4,s5,.ow (c.map av),.sh (.str "rule")]) (s1:=.al 6) (s2:=.al 2) rfl rfl rfl rfl q
  have e3:rE (ag iM false (ae 7) (pC (.str "rule"))) (ag iM false (ae 6) (ae 2)) [s0,s1,.ow (c.map av),s3,s4,s5,.ow (c.map av),.sh (.str "rule")]=some (.sh (.bool true),[s0,s1,.ow (c.map av),s3,s4,s5,.ow (c.map av),.sh (.str "rule")]):=by
   unfold rE
   rw[e1,Option.bind_some]
   exact e2
  exact⟨_,FW (gM k3 (FV e3))⟩
 ·have fa:=ti h.l h.n rfl h.f
  have du:=At h.l h.n rfl h.f h.u
  have r:=FR rfl h.l h.u h.v hf
  generalize lX c (aA (c.map (·.1)))=L at fa du r
  have k2:L6 [s0,s1,.ow (c.map av),s3,s4,s5,.ow (c.map av),.no]=some ([s0,s1,.ow (c.map av),s3,s4,s5,.ow (c.map av),.ow (L.map ai)],.nx):=pR (ss:=[.al 6]) rfl rfl (yK h.n hf fa) (show 7 < 8 by decide) rfl
  rw[aD k2]
  have k3:=BJ (E:=[s0,s1,.ow (c.map av),s3,s4,s5,.ow (c.map av),.ow (L.map ai)]) h rfl
  rw[zz3 hf]at k3
  have aL:∀w∈L,∀a∈w,az a:=fun w hw=>r.u.azw (r.sub w hw)
  have k4:M5 [s0,s1,.ow (c.map av),s3,s4,s5,.ow (c.map av),.ow (L.map ai)]=some ([s0,s1,.ow (c.map av),s3,s4,s5,.ow (c.map av),.ow (L.map ai)],.nx):=gP k3 rfl
  rw[aD k4]
  have d1:ak gm (af false (ae 2) ao) [s0,s1,.ow (c.map av),s3,s4,s5,.ow (c.map av),.ow (L.map ai)]=some (.ow (L.map ai),[s0,s1,.ow (c.map av),s3,s4,s5,.ow (c.map av),.ow (L.map ai)]):=aH (ss:=[.al 2]) rfl rfl du
  have n1:=Ik (f:=ae 7) (s1:=.al 7) (E:=[s0,s1,.ow (c.map av),s3,s4,s5,.ow (c.map av),.ow (L.map ai)]) rfl d1 rfl rfl aL
  have n2:=Kf (f:=ae 6) (g:=ae 2) (s1:=.al 6) (s2:=.al 2) (E:=[s0,s1,.ow (c.map av),s3,s4,s5,.ow (c.map av),.ow (L.map ai)]) h.l.n rfl rfl rfl rfl
  have k5:M6 [s0,s1,.ow (c.map av),s3,s4,s5,.ow (c.map av),.ow (L.map ai)]=some ([s0,s1,.ow (c.map av),s3,s4,s5,.ow (c.map av),.ow (L.map ai)],.nx):=gP (Ij (E1:=[s0,s1,.ow (c.map av),s3,s4,s5,.ow (c.map av),.ow (L.map ai)]) rfl (Ij n1 n2)) rfl
  rw[aD k5]
  obtain⟨b,k6,hb⟩:=HM (E:=[s0,s1,.ow (c.map av),s3,s4,s5,.ow (c.map av),.ow (L.map ai)]) r rfl
  cases b with
  |true=>
   exact⟨_,FW (gM k6 (FV rfl))⟩
  |false=>
   have k7:M7 [s0,s1,.ow (c.map av),s3,s4,s5,.ow (c.map av),.ow (L.map ai)]=some ([s0,s1,.ow (c.map av),s3,s4,s5,.ow (c.map av),.ow (L.map ai)],.nx):=gP k6 rfl
   rw[aD k7]
   have h8:=r.few8 h.v (hb rfl)
   have c1:ak eK (af false (ae 7) ao) [s0,s1,.ow (c.map av),s3,s4,s5,.ow (c.map av),.ow (L.map ai)]=some (.ow ((crd (mt L)).map av),[s0,s1,.ow (c.map av),s3,s4,s5,.ow (c.map av),.ow (L.map ai)]):=aH (ss:=[.al 7]) rfl rfl (Bx r h8)
   have c2:=aH (ss:=[.ow ((crd (mt L)).map av)]) (LA c1) rfl (Dm r h8)
   exact⟨_,FV (Au (g:=ae 7) (s2:=.al 7) c2 rfl rfl rfl (Fp aL))⟩
theorem oR(ns:List Int)(k:Nat)(E:List Sl)(hE:E[0]? =some (.sh (.list (ns.map .int)))):ak aR (af false (ae 0) (af false (pC (.int (k:Int))) ao)) E=some (.sh (.int (ns.getD k 0)),E):=by
 have v:ae 0 E=some (.sh (.list (ns.map .int)),E):=by simp only[ae,hE,Z0]
 exact aH (ss:=[.sh (.list (ns.map .int)),.sh (.int (k:Int))]) (JO v rfl) rfl (pL ns k)
abbrev M8:bX:=aE 1 (ag mG false (cb (aO (pC (.str "bdmxy")) (aO (pC (.str "bdfhkmxy")) bE))) (bD vB (af false (ag iM false (ag ef false (ag cR false (ak aR (af false (ae 0) (af false (pC (.int 0)) ao))) (pC (.int 3))) (pC (.int 8))) (pC (.int 5))) ao)))
abbrev yU:bX:=aE 2 (ak fz (af false (ak fv (af false (ae 0) (af false (pC (.int 1)) (af false (pC (.int 63)) (af false (pC (.int 40)) ao))))) (af false (ae 1) ao)))
theorem HN(ns:List Int):∃N,Nms N∧M8 [.sh (.list (ns.map .int)),.no,.no,.no,.no,.no,.no,.no]=some ([.sh (.list (ns.map .int)),.sh (ai N),.no,.no,.no,.no,.no,.no],.nx):=by
 have c0:=oR ns 0 [.sh (.list (ns.map .int)),.no,.no,.no,.no,.no,.no,.no] rfl
 have f0:=qY (g:=pC (.int 3)) (y:=3) c0 rfl (by decide)
 have m0:=lT (g:=pC (.int 8)) (y:=8) f0 rfl (by decide)
 unfold M8
 generalize ns.getD 0 0 / 3 % 8=z at m0
 generalize ag ef false (ag cR false (ak aR (af false (ae 0) (af false (pC (.int ((0:Nat):Int))) ao))) (pC (.int 3))) (pC (.int 8))=f at m0 ⊢
 by_cases k:z=5
 ·refine⟨_,M3,?_⟩
  subst k
  dsimp! [m0,iP,decide_true]
  rw[ai,←NL]
 ·refine⟨_,nms5,?_⟩
  dsimp! [m0,iP,k,decide_false]
  rw[ai,←Nv]
theorem yM{N:List Nat}(hN:Nms N)(h:CordL c):CordI (· ∈N) (c.map (few N)):=fun p hp=>by
 obtain⟨q,hq,rfl⟩:=Zay.mp hp
 exact⟨Kc hN q,(h q hq).2⟩
theorem Kh(ns:List Int)(hl:ns.length≤63){N:List Nat}(hN:Nms N):∃c:List Pc,CordI (· ∈N) c∧c.length≤40∧yU [.sh (.list (ns.map .int)),.sh (ai N),.no,.no,.no,.no,.no,.no]=some ([.sh (.list (ns.map .int)),.sh (ai N),.ow (c.map av),.no,.no,.no,.no,.no],.nx):=by
 obtain⟨c0,e0,l0,n0⟩:=yH ns 1 63 40 (by decide) (by decide) (by decide) hl
 have e1:=FO N hN.pos (by have:=hN.len;omega) n0 (by omega)
 have k0:ak fv (af false (ae 0) (af false (pC (.int 1)) (af false (pC (.int 63)) (af false (pC (.int 40)) ao)))) [.sh (.list (ns.map .int)),.sh (ai N),.no,.no,.no,.no,.no,.no]=some (.ow (c0.map av),[.sh (.list (ns.map .int)),.sh (ai N),.no,.no,.no,.no,.no,.no]):=aH (ss:=[.sh (.list (ns.map .int)),.sh (.int 1),.sh (.int 63),.sh (.int 40)]) rfl rfl e0
 exact⟨c0.map (few N),yM hN n0,by rw[c_];omega,jQ (aH (ss:=[.ow (c0.map av),.sh (ai N)]) (JO k0 rfl) rfl e1) (show 2 < 8 by decide)⟩
theorem CordI.crd{N:List Nat}(h:Nms N)(k:CordI (· ∈N) c)(l:c.length≤1000):Crd c:=⟨k.l h,l,LL h k⟩
structure Rdy (L:List (List Nat)):Prop where
 r:Rul (aA L.flatten) L
 h8:((mt L).map sz).sum≤800
 n:Nms (aA L.flatten)
theorem Rdy.of(r:Rul U L)(h8:((mt L).map sz).sum≤800)(l:U.length≤8):Rdy L:=⟨r.shrink,h8,by
 obtain⟨v,hv⟩:=List.exists_mem_of_ne_nil L r.nil
 obtain⟨x,hx⟩:=List.exists_mem_of_ne_nil v (r.ne v hv)
 exact List.length_pos_of_mem ((r.shrink.sub v hv).2 x hx),jS (NhFam.df (bp _) r.u.srt (mC r.u r.w).2).length_le l,bp _,r.shrink.u.lt⟩
theorem FX(u:Uni U)(n1:1≤U.length)(n6:U.length≤6){O:List (List Nat)}(d1:Drn U O):Rdy (NhFam.aJ (O++[U])):=by
 have sub:∀w∈O++[U],NhFam.Sub U w:=fun w hw=>by
  rcases Zai.mp hw with q |q
  ·exact⟨List.Pairwise.sublist (d1 w q).2 u.srt,fun x hx=>(d1 w q).2.subset hx⟩
  ·rw[Zaf.mp q];exact⟨u.srt,NhFam.le.refl U⟩
 have t:=NhFam.dF sub
 have cnt:=mD _ (NhFam.fV U) (kU t) fun w hw=>(NhFam.fm u.srt).mpr (t.sub w hw)
 rw[NhFam.j9]at cnt
 have p6:2 ^ U.length≤2 ^ 6:=Nat.pow_le_pow_right (by decide) n6
 have r:=Rul.of u sub (fun v hv=>by
  rcases Zai.mp hv with q |q
  ·exact(d1 v q).1
  ·rw[Zaf.mp q];intro z;rw[z]at n1;simp at n1) (by simp) (by omega)
 exact Rdy.of r (BE r n6) (by omega)
theorem BK(k:Nat):∀W:List (List Nat),(∀t∈W,t.length≤k)→W.flatten.length≤W.length*k
 |[],_=>pT _
 |t::W,h=>by
  have a:=BK k W fun u hu=>h u (gN _ hu)
  have b:=h t (g_ ..)
  rw[List.flatten_cons,iK,List.length_cons,Nat.succ_mul]
  omega
theorem tm(w:List Nat):(aA w).length≤w.length:=(bp w).nodup.length_le_of_subset fun x hx=>(inOrd_mem.mp hx).2
theorem HP{w1 w2:List Nat}(g1:w1≠[]∧w1.length≤4∧∀a∈w1,az a)(g2:w2≠[]∧w2.length≤4∧∀a∈w2,az a):Rdy (NhFam.aJ [aA w1,aA w2]):=by
 have l8:(aA (w1++w2)).length≤8:=by
  have a:=tm (w1++w2)
  rw[iK]at a
  have:=g1.2.1
  have:=g2.2.1
  omega
 have uni:Uni (aA (w1++w2)):=⟨bp _,fun a ha=>by
  rcases Zai.mp (inOrd_mem.mp ha).2 with q |q
  ·exact g1.2.2 a q
  ·exact g2.2.2 a q,by omega⟩
 have sub:∀v∈[aA w1,aA w2],NhFam.Sub (aA (w1++w2)) v:=fun v hv=>by
  rcases Zap.mp hv with q |q
  ·subst q
   exact⟨bp _,fun x hx=>inOrd_mem.mpr ⟨(inOrd_mem.mp hx).1,Zai.mpr (.inl (inOrd_mem.mp hx).2)⟩⟩
  ·rw[Zaf.mp q]
   exact⟨bp _,fun x hx=>inOrd_mem.mpr ⟨(inOrd_mem.mp hx).1,Zai.mpr (.inr (inOrd_mem.mp hx).2)⟩⟩
 have nn:∀w:List Nat,w≠[]→(∀a∈w,az a)→aA w≠[]:=fun w hw ha z=>by
  obtain⟨a,ia⟩:=List.exists_mem_of_ne_nil w hw
  have:a∈aA w:=inOrd_mem.mpr ⟨fQ (ha a ia),ia⟩
  rw[z]at this
  cases this
 have ll:(NhFam.aJ [aA w1,aA w2]).length≤2:=by
  have:=oP (NhFam.jK [aA w1,aA w2]) []
  have e:(NhFam.jK [aA w1,aA w2]).length=2:=(BM _ _).length_eq
  unfold NhFam.aJ
  simp only[Z5]at this
  omega
 have r:=Rul.of uni sub (fun v hv=>by
  rcases Zap.mp hv with q |q
  ·rw[q];exact nn w1 g1.1 g1.2.2
  ·rw[Zaf.mp q];exact nn w2 g2.1 g2.2.2) (by simp) (by omega)
 have fl:=BK 4 (NhFam.aJ [aA w1,aA w2]) fun v hv=>by
  have m:=((NhFam.sk sub).mp (((NhFam.dF sub).mem v).mp hv)).1
  rcases Zap.mp m with q |q
  ·rw[q];exact jS (tm w1) g1.2.1
  ·rw[Zaf.mp q];exact jS (tm w2) g2.2.1
 exact Rdy.of r (r.weigh l8 (by omega)) l8
abbrev Ny:bX:=aE 3 (ak gu (af false (ae 0) (af false (pC (.int 1)) (af false (fP false (pC (.str "bdmxy")) eB (bJ (ag aQ false (pC (.int 1)) (ag ef false (ag cR false (ak aR (af false (ae 0) (af false (pC (.int 0)) ao))) (pC (.int 24))) (pC (.int 5)))))) ao))))
abbrev Nz:bX:=bS (dW (ag (hJ (fk .gt)) false (bD fB (af false (ae 1) ao)) (pC (.int 5))))
 (aE 3 (ak gZ (af false (ak aR (af false (ae 0) (af false (pC (.int 1)) ao))) (af false (pC (.int 4)) ao))))
 aV
abbrev M9:bX:=aE 2 (ak eK (af false (ae 3) ao))
abbrev M_:bX:=aE 1 (d4 "" (b7 (d4 "" (ae 3))))
abbrev Na:bX:=aE 4 (ak fz (af false (ak cc (af false (ak aR (af false (ae 0) (af false (pC (.int 9)) ao))) ao)) (af false (ae 1) ao)))
abbrev Nb:bX:=aE 5 (ak bU (af false (ae 4) ao))
abbrev Nc:bX:=aE 2 (ag aQ false (ag aQ false (ag aQ false (ag aQ false (ag aQ false (ae 4) (fP false (ae 2) eB (bJ (pC (.int 7))))) (ae 4)) (ae 5)) (fP false (ae 2) (bJ (pC (.int 7))) eB)) (ae 5))
theorem LQ(n:Nat):Uni ([98,100,109,120,121].take n):=by
 have s:(([98,100,109,120,121]:List Nat).take n).Sublist [98,100,109,120,121]:=List.take_sublist ..
 exact⟨List.Pairwise.sublist s nms5.srt,fun a ha=>nms5.az a (s.subset ha),jS s.length_le (by decide)⟩
theorem Ki(ns:List Int)(hl:ns.length≤63)(s1 s2:Sl):∃L,Rdy L∧Ny [.sh (.list (ns.map .int)),s1,s2,.no,.no,.no,.no,.no]=some ([.sh (.list (ns.map .int)),s1,s2,.ow (L.map ai),.no,.no,.no,.no],.nx):=by
 have c0:=oR ns 0 [.sh (.list (ns.map .int)),s1,s2,.no,.no,.no,.no,.no] rfl
 have a0:=jA (g:=pC (.int 1)) (x:=1) rfl (lT (g:=pC (.int 5)) (y:=5) (qY (g:=pC (.int 24)) (y:=24) c0 rfl (by decide)) rfl (by decide))
 have z0:=Int.emod_nonneg (ns.getD 0 0 / 24) (b:=5) (by decide)
 have z1:=Int.emod_lt_of_pos (ns.getD 0 0 / 24) (b:=5) (by decide)
 obtain⟨n,hn⟩:=Int.eq_ofNat_of_zero_le (a:=1+ns.getD 0 0 / 24 % 5) (by omega)
 rw[hn]at a0
 have n1:1≤n:=by omega
 have n5:n≤5:=by omega
 have cu:fP false (pC (.str "bdmxy")) eB (bJ (ag aQ false (pC (.int 1)) (ag ef false (ag cR false (ak aR (af false (ae 0) (af false (pC (.int 0)) ao))) (pC (.int 24))) (pC (.int 5))))) [.sh (.list (ns.map .int)),s1,s2,.no,.no,.no,.no,.no]=some (.sh (ai ([98,100,109,120,121].take n)),[.sh (.list (ns.map .int)),s1,s2,.no,.no,.no,.no,.no]):=by
  have st:=sR [98,100,109,120,121] n (by simpa using n5)
  rw[←Nv]at st
  have l:(Str.ofString "bdmxy").length≤1000000:=by decide+kernel
  generalize ag aQ false (pC (.int 1)) (ag ef false (ag cR false (ak aR (af false (ae 0) (af false (pC (.int ((0:Nat):Int))) ao))) (pC (.int 24))) (pC (.int 5)))=f at a0
  simp! [fP,bJ,eB,a0,st,ai,l]
 obtain⟨O,e1,d1,_⟩:=yE (LQ n) ns hl
 have ll:(([98,100,109,120,121]:List Nat).take n).length=n:=by rw[List.length_take];simp;omega
 refine⟨_,FX (LQ n) (by omega) (by omega) d1,pR (ss:=[.sh (.list (ns.map .int)),.sh (.int 1),.sh (ai (([98,100,109,120,121]:List Nat).take n))]) ?_ rfl e1 (show 3 < 8 by decide) rfl⟩
 generalize fP false (pC (.str "bdmxy")) eB (bJ (ag aQ false (pC (.int 1)) (ag ef false (ag cR false (ak aR (af false (ae 0) (af false (pC (.int 0)) ao))) (pC (.int 24))) (pC (.int 5)))))=f at cu ⊢
 simp! [af,ao,cu]
theorem LR(ns:List Int){N:List Nat}(hN:Nms N)(s2:Sl)(hL:Rdy L):∃M,Rdy M∧Nz [.sh (.list (ns.map .int)),.sh (ai N),s2,.ow (L.map ai),.no,.no,.no,.no]=some ([.sh (.list (ns.map .int)),.sh (ai N),s2,.ow (M.map ai),.no,.no,.no,.no],.nx):=by
 have k:=qQ (FS (g:=pC (.int 5)) (y:=5) (sU (E:=[.sh (.list (ns.map .int)),.sh (ai N),s2,.ow (L.map ai),.no,.no,.no,.no]) (f:=ae 1) (w:=N) rfl (by have:=hN.len;omega)) rfl)
 by_cases h:(5:Int) < N.length
 ·rw[zz4 h]at k
  obtain⟨w1,w2,e,g1,g2⟩:=Ao (ns.getD 1 0) 4 (by decide) (by decide)
  have c1:=oR ns 1 [.sh (.list (ns.map .int)),.sh (ai N),s2,.ow (L.map ai),.no,.no,.no,.no] rfl
  exact⟨_,HP g1 g2,gM k (pR (ss:=[.sh (.int (ns.getD 1 0)),.sh (.int ((4:Nat):Int))]) (JO c1 rfl) rfl e (show 3 < 8 by decide) rfl)⟩
 ·rw[zz3 h]at k
  exact⟨L,hL,gP k rfl⟩
theorem tu{f g:aY}{A B:List Pc}(hf:f E=some (s1,E))(hg:g E=some (s2,E))(l1:look E s1=some (.list (A.map av)))(l2:look E s2=some (.list (B.map av)))(hl:A.length+B.length≤1000000):ag aQ false f g E=some (.ow ((A++B).map av),E):=by
 have fa:=jG A
 have fb:=jG B
 simp only[ag,hf,hg,Z0,aQ,l1,l2,c_,hl,fa,fb,Bool.or_true,Bool.and_self,tw,gv]
theorem FY{lo hi:Option Int}{f g:Ib}(hE:E[2]? =some (.ow (c.map av)))(hf:f E=some (lo,E))(hg:g E=some (hi,E)):fP false (ae 2) f g E=some (.ow ((cutL c lo hi).map av),E):=by
 have v:ae 2 E=some (.al 2,E):=by simp only[ae,hE,Z0]
 have fl:=jG (cutL c lo hi)
 simp only[fP,v,Z0,hf,hg,wb hE,lB,fl,Bool.or_true,gv]
theorem Kj(ns:List Int)(h:Rdy L)(s1 s2:Sl):∃(c:List Pc) (t1 t4 t5:Sl),Crd c∧aC M9 (aC M_ (aC Na (aC Nb Nc))) [.sh (.list (ns.map .int)),s1,s2,.ow (L.map ai),.no,.no,.no,.no]=some ([.sh (.list (ns.map .int)),t1,.ow (c.map av),.ow (L.map ai),t4,t5,.no,.no],.nx):=by
 have k3:M9 [.sh (.list (ns.map .int)),s1,s2,.ow (L.map ai),.no,.no,.no,.no]=some ([.sh (.list (ns.map .int)),s1,.ow ((crd (mt L)).map av),.ow (L.map ai),.no,.no,.no,.no],.nx):=pR (ss:=[.al 3]) rfl rfl (Bx h.r h.h8) (show 2 < 8 by decide) rfl
 have fl:=sM h.r.w.tl
 have ln:=h.r.w.len
 have azF:∀y∈L.flatten,az y:=fun y hy=>by
  obtain⟨v,hv,hy⟩:=List.mem_flatten.mp hy
  exact h.r.u.azw (h.r.sub v hv) y hy
 have j1:=yL (E:=[.sh (.list (ns.map .int)),s1,.ow ((crd (mt L)).map av),.ow (L.map ai),.no,.no,.no,.no]) (f:=ae 3) (s:=.al 3) (L:=L) rfl rfl (by omega)
 have k4:M_ [.sh (.list (ns.map .int)),s1,.ow ((crd (mt L)).map av),.ow (L.map ai),.no,.no,.no,.no]=some ([.sh (.list (ns.map .int)),.sh (ai (aA L.flatten)),.ow ((crd (mt L)).map av),.ow (L.map ai),.no,.no,.no,.no],.nx):=kQ (i:=1) (De j1 azF (by omega)) (show 1 < 8 by decide)
 have nc:CordI (· ∈aA L.flatten) (crd (mt L)):=fun p hp=>⟨h.r.nails p hp,(h.r.cord p hp).2⟩
 have lc:=wc (mt L)
 have h8:=h.h8
 have hN:=h.n
 generalize aA L.flatten=N at k4 nc hN
 generalize crd (mt L)=d at k3 k4 nc lc
 obtain⟨b,e9,l9,n9⟩:=jR (ns.getD 9 0)
 have c9:=oR ns 9 [.sh (.list (ns.map .int)),.sh (ai N),.ow (d.map av),.ow (L.map ai),.no,.no,.no,.no] rfl
 have c8:=aH (ss:=[.sh (.int (ns.getD 9 0))]) (LA c9) rfl e9
 have k5:Na [.sh (.list (ns.map .int)),.sh (ai N),.ow (d.map av),.ow (L.map ai),.no,.no,.no,.no]=some ([.sh (.list (ns.map .int)),.sh (ai N),.ow (d.map av),.ow (L.map ai),.ow ((b.map (few N)).map av),.no,.no,.no],.nx):=pR (ss:=[.ow (b.map av),.sh (ai N)]) (JO c8 rfl) rfl (FO N hN.pos (by have:=hN.len;omega) n9 (by omega)) (show 4 < 8 by decide) rfl
 have na:=yM hN n9
 have la:(b.map (few N)).length≤12:=by rw[c_];exact l9
 generalize b.map (few N)=a at k5 na la
 have k6:Nb [.sh (.list (ns.map .int)),.sh (ai N),.ow (d.map av),.ow (L.map ai),.ow (a.map av),.no,.no,.no]=some ([.sh (.list (ns.map .int)),.sh (ai N),.ow (d.map av),.ow (L.map ai),.ow (a.map av),.ow ((NH.contr a).map av),.no,.no],.nx):=pR (ss:=[.al 4]) rfl rfl (iJ a (by omega)) (show 5 < 8 by decide) rfl
 have nb:CordI (· ∈N) (NH.contr a):=fun p hp=>by
  obtain⟨q,hq,rfl⟩:=Zay.mp hp
  have:=na q (List.mem_reverse.mp hq)
  exact⟨this.1,by rw[show((q.1,-q.2):Pc).2= -q.2 from rfl,Int.natAbs_neg];exact this.2⟩
 have lb:(NH.contr a).length=a.length:=NH.bC a
 generalize NH.contr a=b at k6 nb lb
 have q1:=FY (E:=[.sh (.list (ns.map .int)),.sh (ai N),.ow (d.map av),.ow (L.map ai),.ow (a.map av),.ow (b.map av),.no,.no]) (c:=d) (lo:=none) (hi:=some 7) (f:=eB) (g:=bJ (pC (.int 7))) rfl rfl rfl
 have q2:=FY (E:=[.sh (.list (ns.map .int)),.sh (ai N),.ow (d.map av),.ow (L.map ai),.ow (a.map av),.ow (b.map av),.no,.no]) (c:=d) (lo:=some 7) (hi:=none) (f:=bJ (pC (.int 7))) (g:=eB) rfl rfl rfl
 have l1:=mf d (m:=7) (by decide)
 have l2:=j4 d (some 7) none
 have m1:CordI (· ∈N) (cutL d none (some 7)):=fun p hp=>nc p (rL hp)
 have m2:CordI (· ∈N) (cutL d (some 7) none):=fun p hp=>nc p (rL hp)
 generalize cutL d none (some 7)=u at q1 l1 m1
 generalize cutL d (some 7) none=v at q2 l2 m2
 have a1:=tu (f:=ae 4) (s1:=.al 4) (A:=a) rfl q1 rfl rfl (by omega)
 have a2:=tu (g:=ae 4) (s2:=.al 4) (B:=a) a1 rfl rfl rfl (by simp only[iK];omega)
 have a3:=tu (g:=ae 5) (s2:=.al 5) (B:=b) a2 rfl rfl rfl (by simp only[iK];omega)
 have a4:=tu a3 q2 rfl rfl (by simp only[iK];omega)
 have a5:=tu (g:=ae 5) (s2:=.al 5) (B:=b) a4 rfl rfl rfl (by simp only[iK];omega)
 have k7:Nc [.sh (.list (ns.map .int)),.sh (ai N),.ow (d.map av),.ow (L.map ai),.ow (a.map av),.ow (b.map av),.no,.no]=some ([.sh (.list (ns.map .int)),.sh (ai N),.ow ((a++u++a++b++v++b).map av),.ow (L.map ai),.ow (a.map av),.ow (b.map av),.no,.no],.nx):=jQ a5 (show 2 < 8 by decide)
 refine⟨a++u++a++b++v++b,.sh (ai N),.ow (a.map av),.ow (b.map av),CordI.crd hN (((((na.append m1).append na).append nb).append m2).append nb) (by simp only[iK];omega),?_⟩
 rw[aD k3,aD k4,aD k5,aD k6,k7]
theorem Dp:xP=aC M8 (aC yU (aC (bS (dW (ag iM false (ag ef false (ak aR (af false (ae 0) (af false (pC (.int 0)) ao))) (pC (.int 3))) (pC (.int 1)))) (aC Ny (aC Nz (aC M9 (aC M_ (aC Na (aC Nb Nc)))))) aV) (aC M4 (aC L6 (aC M5 (aC M6 (aC M7 Nw))))))):=rfl
theorem Kk(ns:List Int)(hl:ns.length≤63):nE [.list (ns.map .int)]=some (.sh (.bool true)):=by
 have g:nE [.list (ns.map .int)]=(xP [.sh (.list (ns.map .int)),.no,.no,.no,.no,.no,.no,.no]).bind fun a=>match a.2 with |.rt r=>fE r |.nx=>some (.sh .none) |_=>none:=rfl
 obtain⟨N,hN,k1⟩:=HN ns
 obtain⟨c,hc,lc,k2⟩:=Kh ns hl hN
 have c3:=xY (lT (oR ns 0 [.sh (.list (ns.map .int)),.sh (ai N),.ow (c.map av),.no,.no,.no,.no,.no] rfl) (g:=pC (.int 3)) (y:=3) rfl (by decide)) (g:=pC (.int 1)) (y:=1) rfl
 rw[Int.natCast_zero]at c3
 rw[g,Dp,aD k1,aD k2]
 by_cases h:ns.getD 0 0 % 3=1
 ·rw[zz4 h]at c3
  obtain⟨L,hL,k3⟩:=Ki ns hl (.sh (ai N)) (.ow (c.map av))
  obtain⟨M,hM,k4⟩:=LR ns hN (.ow (c.map av)) hL
  obtain⟨d,t1,t4,t5,hd,k5⟩:=Kj ns hM (.sh (ai N)) (.ow (c.map av))
  obtain⟨E,k6⟩:=tail hd (.sh (.list (ns.map .int))) t1 (.ow (M.map ai)) t4 t5
  rw[aD (gM c3 (by rw[aD k3,aD k4];exact k5)),k6]
  rfl
 ·rw[zz3 h]at c3
  obtain⟨E,k6⟩:=tail (hc.crd hN (by omega)) (.sh (.list (ns.map .int))) (.sh (ai N)) .no .no .no
  rw[aD (gP c3 rfl),k6]
  rfl
end Nhk54
namespace Nhk54
open PySem L2 Nh PL
open PySem.W (nsIn codeIn keepIn fnOf)
theorem LS{xs:List Str}(h:∀a0,bindArgs fd ⟨[a0],[]⟩=pure (xs.zip [a0])):∀us:List Value,us.length=1→bindArgs fd ⟨us,[]⟩=pure (xs.zip us)
 |[a0],_=>h a0
theorem Nd{xs:List Str}(h:∀a0 a1,bindArgs fd ⟨[a0,a1],[]⟩=pure (xs.zip [a0,a1])):∀us:List Value,us.length=2→bindArgs fd ⟨us,[]⟩=pure (xs.zip us)
 |[a0,a1],_=>h a0 a1
theorem Nf{xs:List Str}(h:∀a0 a1 a2,bindArgs fd ⟨[a0,a1,a2],[]⟩=pure (xs.zip [a0,a1,a2])):∀us:List Value,us.length=3→bindArgs fd ⟨us,[]⟩=pure (xs.zip us)
 |[a0,a1,a2],_=>h a0 a1 a2
theorem Ng{xs:List Str}(h:∀a0 a1 a2 a3,bindArgs fd ⟨[a0,a1,a2,a3],[]⟩=pure (xs.zip [a0,a1,a2,a3])):∀us:List Value,us.length=4→bindArgs fd ⟨us,[]⟩=pure (xs.zip us)
 |[a0,a1,a2,a3],_=>h a0 a1 a2 a3
abbrev HD(K:Frag)(n:Str)(st:Stmt):Prop:=∃(f:Addr) (oc:Value) (od an:Option Addr) (sl:Array (Option Value)) (kV dc pm cd ct:Value),nsIn K mainGlobals n=some (some (.ref f))∧K.lookup f=some ⟨oc,od,.func (fnOf n n (dw st) (bI st) (aq st) .none kV dc pm an cd ct),sl⟩∧codeIn K cd n=true∧keepIn K (.ref f)=true
theorem LT{K:Frag}{n:Str}{f:Addr}{od:Option Addr}{sl:Array (Option Value)}{kV dc cd ct:Value}(a:nsIn K mainGlobals n=some (some (.ref f)))(l:K.lookup f=some ⟨oc,od,.func (fnOf n n (dw st) (bI st) (aq st) .none kV dc pm an cd ct),sl⟩)(c:codeIn K cd n=true)(k:keepIn K (.ref f)=true):HD K n st:=⟨f,oc,od,an,sl,kV,dc,pm,cd,ct,a,l,c,k⟩
theorem BL{K:Frag}{mg:Str→Option Value}(d:HD K x st)(X:K.In h)(G:h.Ns mainGlobals mg)(b:∀(kV doc pm:Value) (an:Option Addr) (cdv ct:Value) (us:List Value),us.length=ps.length→bindArgs (fnOf x x (dw st) (bI st) (aq st) .none kV doc pm an cdv ct) ⟨us,[]⟩=pure (ps.zip us)):Def K mg x st ps:=by
 obtain⟨f,oc,od,an,sl,kV,dc,pm,cd,ct,a,l,c,k⟩:=d
 exact Jj X G a l c k b
theorem nX{K:Frag}{mg:Str→Option Value}(X:K.In h)(G:h.Ns mainGlobals mg)(d:HD K x st)(b:∀(kV doc pm:Value) (an:Option Addr) (cdv ct a0:Value),bindArgs (fnOf x x (dw st) (bI st) (aq st) .none kV doc pm an cdv ct) ⟨[a0],[]⟩=pure ([p0].zip [a0]):=by exact fun _ _ _ _ _ _ _=>rfl):Def K mg x st [p0]:=BL d X G fun a b' c d e f us hl=>LS (b a b' c d e f) us hl
theorem qP{K:Frag}{mg:Str→Option Value}(X:K.In h)(G:h.Ns mainGlobals mg)(d:HD K x st)(b:∀(kV doc pm:Value) (an:Option Addr) (cdv ct a0 a1:Value),bindArgs (fnOf x x (dw st) (bI st) (aq st) .none kV doc pm an cdv ct) ⟨[a0,a1],[]⟩=pure ([p0,p1].zip [a0,a1]):=by exact fun _ _ _ _ _ _ _ _=>rfl):Def K mg x st [p0,p1]:=BL d X G fun a b' c d e f us hl=>Nd (b a b' c d e f) us hl
theorem NM{K:Frag}{mg:Str→Option Value}{p2:Str}(X:K.In h)(G:h.Ns mainGlobals mg)(d:HD K x st)(b:∀(kV doc pm:Value) (an:Option Addr) (cdv ct a0 a1 a2:Value),bindArgs (fnOf x x (dw st) (bI st) (aq st) .none kV doc pm an cdv ct) ⟨[a0,a1,a2],[]⟩=pure ([p0,p1,p2].zip [a0,a1,a2]):=by exact fun _ _ _ _ _ _ _ _ _=>rfl):Def K mg x st [p0,p1,p2]:=BL d X G fun a b' c d e f us hl=>Nf (b a b' c d e f) us hl
theorem NN{K:Frag}{mg:Str→Option Value}{p2 p3:Str}(X:K.In h)(G:h.Ns mainGlobals mg)(d:HD K x st)(b:∀(kV doc pm:Value) (an:Option Addr) (cdv ct a0 a1 a2 a3:Value),bindArgs (fnOf x x (dw st) (bI st) (aq st) .none kV doc pm an cdv ct) ⟨[a0,a1,a2,a3],[]⟩=pure ([p0,p1,p2,p3].zip [a0,a1,a2,a3]):=by exact fun _ _ _ _ _ _ _ _ _ _=>rfl):Def K mg x st [p0,p1,p2,p3]:=BL d X G fun a b' c d e f us hl=>Ng (b a b' c d e f) us hl
theorem Kl{l:OpenLaw} {w:World} {K:Frag}  {mg:Str→Option Value} {fa z0:Addr} (X:K.In h) (G:h.Ns mainGlobals mg) (hfa:mg "law"=some (.ref fa)) (B:Bn mg)
  {z1 z2:Option Addr} {z3:Array (Option Value)} {z4 z5 z6 z7 z8:Value}
  (z9:HD K "is_nail" pj)
  (za:HD K "short_form" kG)
  (zb:HD K "is_fall" pk)
  (zc:HD K "joined" su)
  (zd:HD K "contrary" nG)
  (ze:HD K "there_and_back" g5)
  (zf:HD K "set_of" sx)
  (zg:HD K "nails_of" nH)
  (zh:HD K "without" pq)
  (zi:HD K "falls_without" iG)
  (zj:HD K "bits_of" pv)
  {cT PT:Addr} {vsT:Array Value} {ocT:Value} {odT:Option Addr} {slT:Array (Option Value)} (zk:nsIn K mainGlobals "in_told_order"=some (some (.ref z0))) (zl:K.lookup z0=some ⟨z4,z1,.func (fnOf "in_told_order" "in_told_order" (dw dm) (bI dm) (aq dm) .none z5 z6 z7 z2 (.ref cT) z8),z3⟩) (zm:codeIn K (.ref cT) "in_told_order"=true) (zn:keepIn K (.ref z0)=true)
  (t1:K.lookup cT=some ⟨ocT,odT,.fields vsT,slT⟩) (t2:(vsT[11]? :Option Value)=some (.ref PT)) (t3:codeHdIn K cT PT=true)
  (zo:HD K "has_part_among" g6)
  (zp:HD K "meets_each" kH)
  (zq:HD K "least_of" nI)
  (zr:HD K "all_sets" nJ)
  (zs:HD K "check_many" kI)
  (zt:HD K "nails_among" jO)
  (zu:HD K "least_sets" kJ)
  (zv:HD K "meeting_sets" ju)
  (zw:HD K "falling_sets" jv)
  (zx:HD K "least_or_no_rule" gn)
  (zy:HD K "check_rule" kK)
  (zz:HD K "first_half" kM)
  (y0:HD K "halves_round" jw)
  (y9:HD K "round_pieces" jx)
  (ya:HD K "pieces_needed" iH)
  (yb:HD K "cord_of" pA)
  (yc:HD K "rule_of" pB)
  (yd:HD K "_law_at" sy)
  (ye:HD K "_law_mix" pD)
  (yf:HD K "_law_contrary" jy)
  (yg:HD K "_law_pieces" kN)
  (yh:HD K "_law_cord" nK)
  (yi:HD K "_law_runs" nM)
  (yj:HD K "_law_word" nN)
  (yk:HD K "_law_sets" nO)
  (yl:HD K "_law_has_part" jz)
  (ym:HD K "_law_least" lN)
  (yn:HD K "_law_rule" nP)
  (yo:HD K "_law_said" nQ)
  (yp:HD K "_law_few" pE)
  (yq:HD K "_law_due" pF)
  (yr:HD K "_law_two" pG)
  (ys:HD K "law" sC)
  {yt:Tok} (yu:nsIn K mainGlobals "LETTERS"=some (some (.str "abcdefghijklmnopqrstuvwxyz" yt)))
  {yv:Tok} (yw:nsIn K mainGlobals "MOST_NAILS"=some (some (.int 10 yv)))
  {yx:Tok} (yy:nsIn K mainGlobals "MOST_PIECES"=some (some (.int 800 yx)))
  {yz x0 x1 x2 x3 x4 x5 x6 x7 x8 x9:Addr}
  (xa:nsIn K mainGlobals "NoCord"=some (some (.ref yz)))
  (xb:nsIn K mainGlobals "NoNails"=some (some (.ref x0)))
  (xc:nsIn K mainGlobals "NoRule"=some (some (.ref x1)))
  (xd:nsIn K mainGlobals "NoText"=some (some (.ref x2)))
  (xe:nsIn K mainGlobals "NoMove"=some (some (.ref x3)))
  (xf:nsIn K mainGlobals "NoLine"=some (some (.ref x4)))
  (xg:nsIn K mainGlobals "NoName"=some (some (.ref x5)))
  (xh:nsIn K mainGlobals "NoNumber"=some (some (.ref x6)))
  (xi:nsIn K mainGlobals "TooMany"=some (some (.ref x7)))
  (xj:nsIn K mainGlobals "TooLong"=some (some (.ref x8)))
  (xk:nsIn K mainGlobals "ValueError"=some none)
  (xl:nsIn K mainGlobals "HangError"=some (some (.ref x9)))
  (xm:excIn K x1 Nr "ValueError.__new__"=true)
  (xn:(PySem.W.clsIn K x1).isSome=true)
  (xo:findIn K (.ref x1) "__getattribute__"=some (some (.builtin "BaseException.__getattribute__")))
  (xp:findIn K (.ref x1) "__getattr__"=some none)
  (xq:findIn K (.ref x1) "__class__"=some (some (.builtin "object.__class__")))
  (xr:mroIn K x1 (.type "BaseException")=some true)
  (xt:mroIn K x1 (.type "object")=some true)
  (xu:kitOne K (.ref x1) (.ref yz)=some false)
  (xv:kitOne K (.ref x1) (.ref x0)=some false)
  (xw:kitOne K (.ref x1) (.ref x1)=some true)
  (xx:kitOne K (.ref x1) (.ref x2)=some false)
  (xy:kitOne K (.ref x1) (.ref x3)=some false)
  (xz:kitOne K (.ref x1) (.ref x4)=some false)
  (v0:kitOne K (.ref x1) (.ref x5)=some false)
  (v1:kitOne K (.ref x1) (.ref x6)=some false)
  (v2:kitOne K (.ref x1) (.ref x7)=some false)
  (v3:kitOne K (.ref x1) (.ref x8)=some false)
  (v4:kitOne K (.ref x1) (.type "ValueError")=some true)
  (v5:exmOne K (.ref x1) (.ref x9)=some true):
  ∃fd:FuncData,(∀(s:Shared) (v:Value),BindsTo s fd ⟨[v],[]⟩ [("_law_script",v)])∧∀base:Heap,K.In base→base.Ns mainGlobals mg→FnOk l.prog w K mg base yR 13 fa fd ["_law_script"] (gh K nE):=by
 obtain⟨v6,v7,v8,v9,va,vb,vc,vd,ve,vf,vg,vh,vi,vj⟩:=id ys
 have e:=hfa.symm.trans (mg_of X G vg)
 cases e
 have F0:=zG (st:=sC) vh vi vj
 have vk:=mg_of X G yu
 have vl:=mg_of X G yw
 have vm:=mg_of X G yy
 have vn:ExCls K x1:=⟨Option.isSome_iff_exists.mp xn,xo,xp,xq,xr,xt⟩
 have XX:XF K mg:=⟨⟨yz,mg_of X G xa,(gA xc vn xu je)⟩,⟨x0,mg_of X G xb,(gA xc vn xv je)⟩,⟨x1,mg_of X G xc,(gA xc vn xw je),⟨xc,mg_of X G xc,xm,vn⟩⟩,⟨x2,mg_of X G xd,(gA xc vn xx je)⟩,⟨x3,mg_of X G xe,(gA xc vn xy je)⟩,⟨x4,mg_of X G xf,(gA xc vn xz je)⟩,⟨x5,mg_of X G xg,(gA xc vn v0 je)⟩,⟨x6,mg_of X G xh,(gA xc vn v1 je)⟩,⟨x7,mg_of X G xi,(gA xc vn v2 je)⟩,⟨x8,mg_of X G xj,(gA xc vn v3 je)⟩,⟨mg_none_of X G xk,(gA xc vn v4 je)⟩,⟨x9,mg_of X G xl,fun n hn D hD=>by
  simp only[Zap,List.not_mem_nil,or_false]at hn
  rcases hn with rfl
  ·rw[xc]at hD;cases hD;exact v5⟩⟩
 have vo:DefT K mg "in_told_order" dm ["sets"] cT PT:=⟨⟨z0,_,_,_,_,_,_,_,_,zl,zm,zn,mg_of X G zk,.all (fun us hl=>LS (fun _=>rfl) us hl)⟩,t3,EU zk zl rfl t1 t2⟩
 refine⟨fnOf "law" "law" (dw sC) (bI sC) (aq sC) .none vb vc vd v9 ve vf,fun s v=>.of_eq rfl,fun base _ _=>?_⟩
 exact JL F0 ⟨B,nX X G z9,nX X G za,nX X G zb,qP X G zc,nX X G zd,qP X G ze,nX X G zf,nX X G zg,qP X G zh,qP X G zi,nX X G zj,⟨_,_,vo⟩,qP X G zo,qP X G zp,nX X G zq,nX X G zr,nX X G zs,nX X G zt,nX X G zu,nX X G zv,nX X G zw,nX X G zx,nX X G zy,nX X G zz,nX X G y0,nX X G y9,nX X G ya,nX X G yb,nX X G yc,qP X G yd,qP X G ye,nX X G yf,nX X G yg,NN X G yh,nX X G yi,nX X G yj,nX X G yk,qP X G yl,nX X G ym,NM X G yn,nX X G yo,qP X G yp,nX X G yq,qP X G yr,⟨_,vk⟩,⟨_,vl⟩,⟨_,vm⟩,XX⟩
theorem Ni{l:OpenLaw}{d:DefRec}{K:Params→Frag}(hn:l.most=some 63)(hdf:d.params.defaults=[])
  (hY:∀(w:World) (h:Heap),YP w h→(K w.params).In h∧AY (K w.params) h)
  (F:∀(w:World) (mg:Str→Option Value) (fa:Addr) (h:Heap),(K w.params).In h→h.Ns mainGlobals mg→mg d.name=some (.ref fa)→
   ∃fd:FuncData,(∀(s:Shared) (u:Value),BindsTo s fd ⟨[u],[]⟩ [("_law_script",u)])∧∀base:Heap,(K w.params).In base→base.Ns mainGlobals mg→FnOk l.prog w (K w.params) mg base yR 13 fa fd ["_law_script"] (gh (K w.params) nE)):
  PySem.W.WalkO q loose XP YP l.row.toRowW d [] (fun f vs=>PySem.call f vs):=
 L2.Ex (n:=63) (k:=13) (x:="_law_script") (CX:=fun _=>yR) (sp:=fun w=>gh (K w.params) nE) hn (by decide) hdf ⟨rfl,by decide,by decide⟩ hY F (fun _ _ a ns hl hS=>Jr (Kk ns hl) hS) fun _ _ _ _ _ z=>z
end Nhk54
open PySem PySem.W PyProof.Rows
namespace PySem.W.Fast
def tw11211982314377822240:=0
def tw11835095715756257408:=0
def tw3539122094093043104:=0
def tw6481972859694334400:=0
def tw16441369576924484160:=0
def tw7342036881913757248:=0
def tw6639033068660103808:=0
def tw15461754890383300384:=0
def tw5927140796227566368:=0
def tw4881760238561134368:=0
def tw18186908942805756768:=0
def tw2883812483832888353:=0
def tw17006560779920157761:=0
def tw13284072501572560001:=0
def tw12959892944810823073:=0
def tw10814811765690687937:=0
def tw15577199170124764641:=0
def tw14962886550512232225:=0
def tw671218707663149857:=0
def tw8201107697770875841:=0
def tw12002454197168535521:=0
def tw4505513643952711682:=0
def tw15825667612567844962:=0
def tw4120624838524930210:=0
def tw13596170822908975266:=0
def tw9256485520135777538:=0
def tw12744036928500056386:=0
def tw11224172416502505826:=0
def tw8504692243320454562:=0
def tw8327546241465561602:=0
def tw12025633060350127682:=0
def tw2257423670470182594:=0
def tw713485914611174306:=0
def tw6219818684255072162:=0
def tw15016350708132883459:=0
def tw684863605926199395:=0
def tw5013220688507145315:=0
def tw3076419773145645283:=0
def tw10522042473737073923:=0
def tw10910096830524722467:=0
def tw2352270386568450371:=0
def tw15631217197957061987:=0
def tw16001013941275153763:=0
def tw9165056838663103907:=0
def tw16943187567128504963:=0
def tw3119004761684427459:=0
def tw2732783438719561443:=0
def tw11302994637060007651:=0
def tw2110885398610554723:=0
def tw5216485416202275683:=0
def tw2401772387554078756:=0
def tw5865053585325667492:=0
def tw9055983669686854916:=0
def tw7638952164085369092:=0
def tw340849019207195972:=0
def tw2762981730598684068:=0
def tw3915869454216584644:=0
def tw3190002769240630948:=0
def tw15854054799707439876:=0
def tw17617990258765413188:=0
def tw5599367977589046148:=0
def tw5182880161429580740:=0
def tw8686662682402847684:=0
def tw12038023590028779717:=0
def tw16245461793006972133:=0
def tw10096937796343008549:=0
def tw15059829173544300837:=0
def tw16287110000898585957:=0
def tw7012259595970261349:=0
def tw9806668250475838949:=0
def tw17534996323897205317:=0
def tw6775193098867044965:=0
def tw5299752344563845765:=0
def tw9745807016650852069:=0
def tw14924524634395233061:=0
def tw3142057498286451525:=0
def tw15274043490275269477:=0
def tw17247590403014449254:=0
def tw14680047123741195398:=0
def tw13201261115174439046:=0
def tw14089259363533856902:=0
def tw2625391948135555238:=0
def tw12938315969965239622:=0
def tw3292619673657996614:=0
def tw15348337788762312070:=0
def tw18283643257661518278:=0
def tw15902616841437059590:=0
def tw4926574012751453702:=0
def tw11230909008859422342:=0
def tw3304398000913279654:=0
def tw12315103106541151078:=0
def tw17250489177050776454:=0
def tw1860767177544181767:=0
def tw17113053926125776935:=0
def tw6172190862081477671:=0
def tw3103721091130547271:=0
def tw4501426257650793575:=0
def tw13948166717841940647:=0
def tw11698612259682208967:=0
def tw15107529762934676711:=0
def tw15703951718655171847:=0
def tw10260166948053729671:=0
def tw8000156033302035879:=0
def tw7648512876863241735:=0
def tw5324434441860019751:=0
def tw3500541204900169255:=0
def tw13563887237317949095:=0
def tw5598820776337885927:=0
def tw5371879583315583751:=0
def tw17157003838110040903:=0
def tw82993826987457415:=0
def tw1096695835307442119:=0
def tw4956406889093146599:=0
def tw15506987565159607464:=0
def tw4914312917474888904:=0
def tw16095425564366417416:=0
def tw5240594639929620072:=0
def tw15048178432192594536:=0
def tw6891727792027099016:=0
def tw8307233218043343816:=0
def tw12350117045839180776:=0
def tw5596193077617069065:=0
def tw16706861934662828105:=0
def tw10051777356214399049:=0
def tw13399937124871216393:=0
def tw17582857551651164553:=0
def tw8884676477776082537:=0
def tw5926597398529239657:=0
def tw6582591414564794089:=0
def tw4497333962909259529:=0
def tw18425106461161173801:=0
def tw6674150597996545961:=0
def tw1129929917307038890:=0
def tw12754781360622061770:=0
def tw2971114502176848266:=0
def tw12987975361315348970:=0
def tw6901716114262044234:=0
def tw2679943166373694218:=0
def tw15209934474918787850:=0
def tw10277697351636474666:=0
def tw11549277926366805866:=0
def tw5384712906861858698:=0
def tw7014187194092939178:=0
def tw13259776246947229642:=0
def tw13146551605817686986:=0
def tw3322127795901477899:=0
def tw8480076449663596683:=0
def tw14942787922021113003:=0
def tw17448616720069699755:=0
def tw9422887249741875403:=0
def tw7653950872735114603:=0
def tw11126772690180758955:=0
def tw10169016025248676363:=0
def tw6194198013486038571:=0
def tw774367462660033131:=0
def tw8947066021565345579:=0
def tw7743986634974588843:=0
def tw901217157519549387:=0
def tw1664182813347308523:=0
def tw10181756398876374028:=0
def tw13490651527726513164:=0
def tw16399554650339134508:=0
def tw5799782784269258860:=0
def tw10333886264222847148:=0
def tw11163547495014197484:=0
def tw16099905160369315084:=0
def tw15880047141627183404:=0
def tw3307579545808844140:=0
def tw16684055778059593100:=0
def tw4278863959690984876:=0
def tw1517981373860509164:=0
def tw17520153111302681132:=0
def tw11982750582667413132:=0
def tw11585840184938868428:=0
def tw16287394053072506604:=0
def tw724194640083643180:=0
def tw10169387987974220620:=0
def tw12070454552851926892:=0
def tw7747987640724440940:=0
def tw18348071402411742060:=0
def tw4162379358563145644:=0
def tw12035375258843203500:=0
def tw4653683484181966828:=0
def tw7298167563866070061:=0
def tw2897018364350968941:=0
def tw3844261587045168301:=0
def tw4569715619830476205:=0
def tw11598953252080466349:=0
def tw12362130340574168781:=0
def tw17142419495747665677:=0
def tw10562089191018140461:=0
def tw9562060995523683149:=0
def tw8800671475631912845:=0
def tw14698925099836876685:=0
def tw10019562560479812525:=0
def tw14760653814384033741:=0
def tw2392927531410216909:=0
def tw10164797526321923182:=0
def tw9949630066111656238:=0
def tw10350642624894788014:=0
def tw14299235583184294574:=0
def tw1998030847130861294:=0
def tw6556504087900696302:=0
def tw7596202445729920015:=0
def tw10635963905348678863:=0
def tw4480209400798844143:=0
def tw11406136469043023215:=0
def tw14971839664558385583:=0
def tw2431516509996365231:=0
def tw700157127533745647:=0
def tw12770050164479303343:=0
def tw16841471960377448175:=0
def tw7063639052820846351:=0
def tw280732608094106543:=0
def tw9888976799830090735:=0
def tw17457401345146283024:=0
def tw4601009588436527152:=0
def tw3163950733089216592:=0
def tw7383515260795884624:=0
def tw8247321453069585552:=0
def tw12992983200783746224:=0
def tw295030012185405680:=0
def tw7044145551635369392:=0
def tw6684901773337378224:=0
def tw17577279017415180816:=0
def tw9998977970375368304:=0
def tw13739175209823965904:=0
def tw11508816842657539153:=0
def tw11705776067378348209:=0
def tw2758754563705970897:=0
def tw17117078206823852241:=0
def tw5981660793810688305:=0
def tw4537030228151222609:=0
def tw13155538620912998769:=0
def tw13419032790151881073:=0
def tw398917433574045073:=0
def tw5939633396373495249:=0
def tw15442567170125278705:=0
def tw16948613004574223921:=0
def tw3899912518521082449:=0
def tw5534466229187527313:=0
def tw6336359861093569297:=0
def tw15746942909659846513:=0
def tw781310764529803217:=0
def tw11299593395339575281:=0
def tw14019119434637124626:=0
def tw10017430469722743954:=0
def tw11603897596904913042:=0
def tw7802427787866012818:=0
def tw16575542412050993362:=0
def tw11305807048606385362:=0
def tw9354960084297875826:=0
def tw6969211617450726770:=0
def tw9422367079046681970:=0
def tw1499160204039368114:=0
def tw10825972343534074290:=0
def tw2806498448262797810:=0
def tw8399348245282571762:=0
def tw16729258145131909618:=0
def tw7827036554894609970:=0
def tw15277597840604347986:=0
def tw17470115009824495186:=0
def tw7992394889760917106:=0
def tw4828521330389357202:=0
def tw2642827999338500818:=0
def tw8267399088174054226:=0
def tw8981286199798401906:=0
def tw8814835768572670866:=0
def tw13365723797046311987:=0
def tw15627913864262191219:=0
def tw5823757461288979667:=0
def tw5775574558840919315:=0
def tw12726736044220585267:=0
def tw16217242985881472403:=0
def tw15827133109668494771:=0
def tw3054200921056150003:=0
def tw15801152970606435859:=0
def tw18146201457229382227:=0
def tw1054678637219062419:=0
def tw6247677591530762931:=0
def tw16323090930236589843:=0
def tw13865932256562373459:=0
def tw3790976595873161075:=0
def tw7843891604907156467:=0
def tw16907427485662919764:=0
def tw7232072330827316308:=0
def tw15325633403079982196:=0
def tw16381979446470154388:=0
def tw3640320718368818356:=0
def tw17924236157259860276:=0
def tw942493619547071924:=0
def tw10061968752109957684:=0
def tw13704306114221216340:=0
def tw6972055157157883732:=0
def tw17863595436943853460:=0
def tw978994302050047061:=0
def tw17238459498843613269:=0
def tw16755557062162666581:=0
def tw652998896677785813:=0
def tw1983439220301464789:=0
def tw7194361254344927733:=0
def tw10906941550916939253:=0
def tw8053629055831545493:=0
def tw11254703497155744469:=0
def tw12775039300436151125:=0
def tw2755308014501654357:=0
def tw6059220742800745461:=0
def tw3989033740618691734:=0
def tw9347466487967252758:=0
def tw13134158825294492054:=0
def tw4177861892686776726:=0
def tw9336558109314588406:=0
def tw4661567965852788630:=0
def tw8941970592137657270:=0
def tw4302128121719107703:=0
def tw6396014593733771447:=0
def tw6188249198563382487:=0
def tw8183131567505074615:=0
def tw16743436771598219703:=0
def tw10829585866230556087:=0
def tw15050020496999469559:=0
def tw4703477044701177399:=0
def tw34892947645139735:=0
def tw14772534042536510263:=0
def tw7039336462925252439:=0
def tw9281887913323907927:=0
def tw13077434677422230455:=0
def tw4647354023171289015:=0
def tw8888215176876966871:=0
def tw15837024311551334488:=0
def tw2026055120528618680:=0
def tw17989499975335401720:=0
def tw12436126102772124024:=0
def tw12994019241749821848:=0
def tw13260406273295778264:=0
def tw767735614050926136:=0
def tw1086369885360560920:=0
def tw9398368629313021752:=0
def tw6782108494175971288:=0
def tw13963693978516207576:=0
def tw13251160326487288824:=0
def tw7994069073084917945:=0
def tw5945212471298507961:=0
def tw10942286699063175417:=0
def tw15125137356265302361:=0
def tw18408924397460639129:=0
def tw12107023769821614521:=0
def tw11204324740209048025:=0
def tw13507731597976352377:=0
def tw16184445186562468665:=0
def tw18245330606483650425:=0
def tw12187412770350342266:=0
def tw8040297841918834842:=0
def tw12114812651725601178:=0
def tw11162177423261893018:=0
def tw12028938909519487418:=0
def tw10943512098868781530:=0
def tw3171187798426298874:=0
def tw17592701455439350298:=0
def tw16588954520616745530:=0
def tw7297716717539017498:=0
def tw897758910388676442:=0
def tw10678235026842512314:=0
def tw10755615578220800954:=0
def tw16030682920879198170:=0
def tw6449802282205046746:=0
def tw8413228247349227547:=0
def tw2145993068309055611:=0
def tw11125249946034550971:=0
def tw8331043988447968507:=0
def tw16157242302222432603:=0
def tw13583897269312471515:=0
def tw12696067393302171131:=0
def tw14848527846506304091:=0
def tw13390003958723240635:=0
def tw5163993212043311867:=0
def tw4960638526618069755:=0
def tw11754671278986434427:=0
def tw7584983865641465787:=0
def tw16262264717336219643:=0
def tw5563067769695610012:=0
def tw6619177294490238300:=0
def tw14287829315964715388:=0
def tw5040528602074234236:=0
def tw8290976339184245148:=0
def tw4413275336874648060:=0
def tw13676892143680273948:=0
def tw1797622704594682492:=0
def tw849793816182715068:=0
def tw3018977530690657084:=0
def tw7278946393570684764:=0
def tw9486328270875963324:=0
def tw6192619062293057500:=0
def tw15821194732472308765:=0
def tw8235038601598284861:=0
def tw12587636289762184413:=0
def tw3459016841379411261:=0
def tw4424278150067465565:=0
def tw3614149316558937501:=0
def tw17529793052395418237:=0
def tw14226729048663295645:=0
def tw5170829325330621213:=0
def tw14720015109018426173:=0
def tw10899521555208701054:=0
def tw642950903031891102:=0
def tw243112806458179902:=0
def tw17206820112952837726:=0
def tw9535136951954750110:=0
def tw16403199452662516510:=0
def tw6326746258664511454:=0
def tw2586594153958590527:=0
def tw4645815866184296511:=0
def tw14956584135356697727:=0
def tw12135514990971231423:=0
def tw11594600273344536799:=0
def tw11609275251745441183:=0
def tw16772962843234699711:=0
def tw12265977344756692447:=0
def tw13077204099452088991:=0
def tw2214101040982689439:=0
def tw10105293373761424159:=0
def tw14319895934771912703:=0
def tw11589808941287424511:=0
end PySem.W.Fast
set_option maxRecDepth 100000 in
set_option maxHeartbeats 0 in
theorem PySem.Challenge.cw_nailhang_k54_rules_of_cords_holds : PySem.Challenge.rw_nailhang_k54_rules_of_cords.Holds := by
 w_on;o_law;k_head;(case hw=>w_witness2)
 k_fill
 refine Nhk54.Ni (l:=PySem.Challenge.rw_nailhang_k54_rules_of_cords) rfl rfl (fun w h Y=>⟨PySem.W.km_in_of Y,by
  refine' PL.EV (PySem.W.km_in_of Y) ?y1 ?y2 ?y3 ?y4 ?y5 ?y6 ?y7 (PySem.W.km_tabs_of Y _ ?y8)
  (case y1=>k_is)
  (case y2=>k_is)
  (case y3=>exact rfl)
  (case y4=>k_is)
  (case y5=>exact rfl)
  (case y6=>kernel_rfl)
  (case y7=>kernel_rfl)
  (case y8=>k_mem)⟩) ?F
 case F=>
  intro w mg fa h KX G hmg
  refine' Nhk54.Kl KX G hmg (PL.Li KX G ?_ ?_ ?_ ?_ ?_ ?_ ?_ ?_ ?_ ?_ ?_ ?_ ?_ ?_ ?_ ?_ ?_ ?_ ?_ ?_) ?_ ?_ ?_ ?_ ?_ ?_ ?_ ?_ ?_ ?_ ?_ ?zk ?zl ?zm ?zn ?t1 ?t2 ?t3 ?_ ?_ ?_ ?_ ?_ ?_ ?_ ?_ ?_ ?_ ?_ ?_ ?_ ?_ ?_ ?_ ?_ ?_ ?_ ?_ ?_ ?_ ?_ ?_ ?_ ?_ ?_ ?_ ?_ ?_ ?_ ?_ ?_ ?yu ?yw ?yy ?xa ?xb ?xc ?xd ?xe ?xf ?xg ?xh ?xi ?xj ?xk ?xl ?xm ?xn ?xo ?xp ?xq ?xr ?xt ?xu ?xv ?xw ?xx ?xy ?xz ?v0 ?v1 ?v2 ?v3 ?v4 ?v5
  (case zk=>k_is)
  (case zl=>k_is)
  (case zm=>k_is)
  (case zn=>k_is)
  (case t1=>k_is)
  (case t2=>exact rfl)
  (case t3=>kernel_rfl)
  (case yu=>k_is)
  (case yw=>k_is)
  (case yy=>k_is)
  (case xa=>k_is)
  (case xb=>k_is)
  (case xc=>k_is)
  (case xd=>k_is)
  (case xe=>k_is)
  (case xf=>k_is)
  (case xg=>k_is)
  (case xh=>k_is)
  (case xi=>k_is)
  (case xj=>k_is)
  (case xk=>k_is)
  (case xl=>k_is)
  (case xm=>k_exc)
  (case xn=>kernel_rfl)
  (case xo=>k_is)
  (case xp=>k_is)
  (case xq=>k_is)
  (case xr=>k_is)
  (case xt=>k_is)
  (case xu=>kit_is)
  (case xv=>kit_is)
  (case xw=>kit_is)
  (case xx=>kit_is)
  (case xy=>kit_is)
  (case xz=>kit_is)
  (case v0=>kit_is)
  (case v1=>kit_is)
  (case v2=>kit_is)
  (case v3=>kit_is)
  (case v4=>kit_is)
  (case v5=>kts_exm)
  all_goals first |(refine' Nhk54.LT ?_ ?_ ?_ ?_ <;> first |k_is |skip) |k_is
