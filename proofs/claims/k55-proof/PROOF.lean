import PyProof.Rows.All
import KE.KLam
import KE.KNestM
import PyProof.OldK
import Wide.All
import OpenK.AllK
import Wide.FinOn
import Lean
import PyProof.EqAt
import PyProof.EqKinds
import PyProof.TupleCall
import KE.KRevIter
import PyProof.Rows.SeqMore
import PyProof.Rows.ListMulArg
import PyProof.ZipIter
import PyProof.Rows.ZipGen
import PyProof.EnumMake
import PyProof.StrWalks
import PyProof.SliceStr2
import PyProof.StrBlockH
import PyProof.FString5
import PyProof.Rows.StrJoin2
import PyProof.Rows.Range3
import KE.KDictLaws
import PyProof.ConsumeWalk
import PyProof.SumWalkG
import PyProof.Rows.SeqCalls
import PyProof.Rows.SeqGen
import PyProof.Rows.MinMaxN
import PyProof.Rows.CallKwBuiltin
import PyProof.Rows.SortStr
import PyProof.StrOps2
import PyProof.Rows.StrMul
import PyProof.IsRules
import PyProof.Rows.SetFrom
import PyProof.CollectStr
import KE.KTryMore
import KE.KSortTup
import PyProof.StrOps
import PyProof.Rows.SortRuns
import PyProof.Rows.SortKey
import PyProof.RulesTry
import PyProof.StrLawsIn
import PyProof.StrLawsNeg
import PyProof.StrLawsTight
import PyProof.StrLawsChain
import KE.RegKIsAll
import KE.RegKTryMore
import PySem.Challenge.RW_nailhang_k55_making_refused
set_option Elab.async false
set_option linter.all false
set_option maxRecDepth 100000
set_option maxHeartbeats 4000000
local macro_rules | `(tactic|omega) => `(tactic|lia)
noncomputable section
theorem Z0{α β:Type}(a:α)(f:α→Option β):(some a).bind f=f a:=rfl
theorem Z1{α β:Type}{x:α}{f:α→β}:(some x).map f=some (f x):=rfl
theorem Z2{α:Type}{a:α}{l:List α}:(a::l)[0]? =some a:=rfl
theorem Z3{α:Type}{a:α}{l:List α}{i}:(a::l)[i+1]? =l[i]? :=rfl
theorem Z4{α:Type}{a:α}{l:List α}:(a::l).length=l.length+1:=rfl
theorem Z5{α:Type}:([]:List α).length=0:=rfl
theorem Z6{α:Type}{a b:α}{l:List α}:(a::l).set 0 b=b::l:=rfl
theorem Z7{α:Type}{a b:α}{l:List α}{n}:(a::l).set (n+1) b=a::l.set n b:=rfl
theorem Z8{α:Type}{l:List α}:[]++l=l:=rfl
theorem Z9{α:Type}{a:α}{l m:List α}:a::l++m=a::(l++m):=rfl
def iy:=@And.intro _ _ @Bool.false_and <|And.intro @Bool.false_eq_true <|And.intro @if_true.{1} <|And.intro @if_false.{1} <|And.intro @Nat.zero_add <|And.intro @Bool.not_false <|And.intro @Bool.and_true <|And.intro @decide_true <|And.intro @decide_false <|And.intro @Bool.true_or <|And.intro @Bool.true_and @Bool.not_true
def Za:=@Option.bind_eq_some_iff
def gD:=@PySem.Heap.get?_push_of_some
def Zab:=@Option.map_eq_some_iff
def eM:=@List.length_map
def gQ:=@List.mem_cons_of_mem
def gE:=@List.mem_cons_self
def Zaf:=@List.mem_singleton
def Zag:=@List.mem_cons
def Zah:=@List.mem_append
def fP:=@PySem.Heap.lt_size
def fz:=@Nat.le_refl
def gR:=@List.map_cons
def m9:=@List.mem_append_right
def mf:=@PySem.Heap.get?_push_size
def ma:=@Nat.lt_of_lt_of_le
def k7:=@List.size_toArray
def gS:=@Nat.ne_of_lt
def vH:=@List.getElem?_eq_getElem
def oQ:=@List.append_assoc
def pA:=@List.length_append
def jP:=@Nat.le_trans
def oR:=@List.append_nil
def Zav:=@List.getElem?_eq_some_iff
def qN:=@Nat.le_add_right
def lq:=@Nat.le_of_lt
def sT:=@Bool.false_ne_true
def rC:=@Bool.and_eq_true
def Zb:=@Array.toList_append
def xI:=@Array.length_toList
def xP:=@List.mergeSort_perm
def CN:=@Nat.add_sub_cancel_left
def xJ:=@Nat.lt_succ_of_lt
def FD:=@List.getElem?_append_right
def Zbf:=@List.mem_map
def zP:=@List.getElem?_map
def FK:=@List.drop_eq_getElem_cons
def FE:=@PySem.Heap.get?_update_other
open PySem.W (instObj tabObj methodObj hideAll hideAll_get of_hideAll Frag nsIn lookIn findIn mroIn kitOne kia_one kitx_list kitx_dict keepIn callWith_K cellsFrom_some fnOf codeIn mg_of mg_none_of OpenLaw funFrames_hide excIn exmOne codeHdIn clsIn)
local macro_rules | `(tactic|and_intros)=>`(tactic|exact⟨rfl,rfl,rfl,by decide+kernel,rfl,by decide+kernel,by decide+kernel⟩)
variable {α β:Type} {a C I ea:PySem.Addr} {us its args:List PySem.Value} {o o' oe:PySem.Obj} {P:PySem.Program} {h h' h2:PySem.Heap} {t' j k n ep lo:Nat} {ch fp:List PySem.Addr} {e iter:PySem.Expr} {x qual q z p0:PySem.Str} {Q:PySem.Value→PySem.Shared→Prop} {pins:List (PySem.Addr×PySem.Obj)} {y:Int} {es:Array (Int×PySem.Value)} {pos' p p2 np:PySem.Pos} {body:List PySem.Stmt} {fd:PySem.FuncData} {ps loose ks:List PySem.Str} {scope:PySem.Scope} {params:PySem.Arguments} {doc pm cdv oc a0:PySem.Value} {an:Option PySem.Addr} {osl:Array (Option PySem.Value)} {T:String} {XP:(PySem.Str→Option PySem.Value)→PySem.Heap→Prop} {YP:PySem.World→PySem.Heap→Prop} {d:PySem.PyData} {st:PySem.Stmt} {js:List (Option Nat)} {ds:List PySem.PyData} {m1 m m3 mk:Bool} {tk:PySem.Tok} {L W:List (List Nat)} {U:List Nat}
def zz0:=@PySem.wpAny_bind
def zz1:=@PySem.wpAny_pure
def zz2:=@PySem.wpAny_mono
def zz3:=@decide_eq_false
def zz4:=@decide_eq_true
def zz5:=@of_decide_eq_true
def zz6:=@PySem.wpAny_Call_Name_kw
def zz7:=@PySem.wpAny_holding
def zz8:=@Nat.lt_of_le_of_lt
def zz9:=@Nat.zero_le
def zzA:=@Nat.add_lt_add_left
def zzB:=@Nat.lt_of_le_of_ne
def zzC:=@Nat.lt_succ_self
def zzD:=@PySem.Heap.size_push
def zzE:=@Nat.add_le_add_left
def zzF:=@Nat.add_sub_of_le
namespace L2
open PySem PySem.Spec PyProof.Rows
abbrev jS:=Sum Int Str
def HI:jS→Value→Bool
 |.inl k,v=>Value.isInt k v
 |.inr x,v=>Value.isStrOf x v
def Mq(w:World):jS→Int
 |.inl k=>hashInt k
 |.inr x=>hashStr w x
theorem cQ:∀{k:jS} {v:Value},HI k v=true→(∃i t,k=Sum.inl i∧v=Value.int i t)∨(∃x t,k=Sum.inr x∧v=Value.str x t)
 |.inl i,v,h=>by
  obtain⟨t,e⟩:=Value.isInt_shape (k:=i) (v:=v) h
  exact .inl ⟨i,t,rfl,e⟩
 |.inr x,v,h=>by
  obtain⟨t,e⟩:=Value.isStrOf_shape (x:=x) (v:=v) h
  exact .inr ⟨x,t,rfl,e⟩
theorem Ii(a b:Int):decide ((Sum.inl a:jS)=Sum.inl b)=(a == b):=by
 by_cases e:a=b
 ·subst e;simp
 ·have h:¬(Sum.inl a:jS)=Sum.inl b:=fun q=>e (Sum.inl.inj q)
  rw[zz3 h]
  exact(beq_eq_false_iff_ne.mpr e).symm
theorem Ij(a b:Str):decide ((Sum.inr a:jS)=Sum.inr b)=decide (a=b):=by
 by_cases e:a=b
 ·subst e;simp
 ·have h:¬(Sum.inr a:jS)=Sum.inr b:=fun q=>e (Sum.inr.inj q)
  rw[zz3 h,zz3 e]
theorem Ik(a:Int)(b:Str):decide ((Sum.inl a:jS)=Sum.inr b)=false:=zz3 (fun q=>nomatch q)
theorem Il(a:Str)(b:Int):decide ((Sum.inr a:jS)=Sum.inl b)=false:=zz3 (fun q=>nomatch q)
def pc(prog:Program)(w:World):PySem.KeyKind prog w jS where
 is:=HI
 hash:=Mq w
 inj:=fun v a b ha hb=>by
  rcases cQ ha with⟨i,t,rfl,rfl⟩ |⟨x,t,rfl,rfl⟩
  ·rcases cQ hb with⟨j,u,rfl,e⟩ |⟨y,u,rfl,e⟩
   ·injection e with e1 _;rw[e1]
   ·exact nomatch e
  ·rcases cQ hb with⟨j,u,rfl,e⟩ |⟨y,u,rfl,e⟩
   ·exact nomatch e
   ·injection e with e1 _;rw[e1]
 byValue:=fun k v h=>by
  rcases cQ h with⟨i,t,rfl,rfl⟩ |⟨x,t,rfl,rfl⟩ <;> rfl
 pyHash:=fun hv h=>by
  rcases cQ hv with⟨i,t,rfl,rfl⟩ |⟨x,t,rfl,rfl⟩
  ·exact wpAny_pyHash_int h
  ·exact wpAny_pyHash_str h
 eqBool:=fun hu hv h=>by
  rcases cQ hu with⟨i,t,rfl,rfl⟩ |⟨x,t,rfl,rfl⟩
  ·rcases cQ hv with⟨j,u,rfl,rfl⟩ |⟨y,u,rfl,rfl⟩
   ·rw[Ii]at h;exact wpAny_eqBool_int h
   ·rw[Ik]at h;exact SeqAt.EqAt.int_str i t y u _ _ _ _ h
  ·rcases cQ hv with⟨j,u,rfl,rfl⟩ |⟨y,u,rfl,rfl⟩
   ·rw[Il]at h;exact SeqAt.EqAt.str_int x t j u _ _ _ _ h
   ·rw[Ij]at h;exact wpAny_eqBool_str h
 «strs»:=fun k x t v h=>by
  rcases cQ h with⟨i,u,rfl,e⟩ |⟨y,u,rfl,e⟩
  ·exact nomatch e
  ·injection e with e1 _
   subst e1
   cases v <;> rfl
end L2
namespace L2
open PySem PySem.Spec PyProof.Rows
inductive V where
 |non |bl (b:Bool) |int (i:Int) |str (x:Str) |byt (b:Array UInt8) |flt (b:UInt64) |ref (a:Addr) |ty (n:String)
 deriving DecidableEq
def RelV:V→Value→Prop
 |.non,u=>u=Value.none
 |.bl b,u=>u=Value.bool b
 |.int i,u=>∃t,u=Value.int i t
 |.str x,u=>∃t,u=Value.str x t
 |.byt b,u=>∃t,u=Value.bytes b t
 |.flt b,u=>∃t,u=Value.float b t
 |.ref a,u=>u=Value.ref a
 |.ty n,u=>u=Value.type n
abbrev Vals:List V→List Value→Prop:=Paired RelV
theorem Vals.length{xs:List V}(r:Vals xs us):xs.length=us.length:=Paired.length r
theorem Vals.get:∀{xs:List V} {us:List Value} {i:Nat} {x:V},Vals xs us→xs[i]? =some x→∃u,us[i]? =some u∧RelV x u
 |_,_,_,_,.nil,e=>by simp at e
 |_,_,0,_,.cons r _,e=>by simp at e;subst e;exact⟨_,rfl,r⟩
 |_,_,i+1,x,.cons _ t,e=>by
  obtain⟨u,h1,h2⟩:=Vals.get (i:=i) (x:=x) t (by simpa using e)
  exact⟨u,by simpa using h1,h2⟩
theorem Vals.append:∀{xs ys:List V} {us ws:List Value},Vals xs us→Vals ys ws→Vals (xs++ys) (us++ws)
 |_,_,_,_,.nil,s=>s
 |_,_,_,_,.cons r t,s=>.cons r (Vals.append t s)
theorem Vals.take:∀{xs:List V} {us:List Value} (n:Nat),Vals xs us→Vals (xs.take n) (us.take n)
 |_,_,0,_=>.nil
 |_,_,_+1,.nil=>.nil
 |_,_,n+1,.cons r t=>.cons r (Vals.take n t)
theorem Vals.drop:∀{xs:List V} {us:List Value} (n:Nat),Vals xs us→Vals (xs.drop n) (us.drop n)
 |_,_,0,r=>r
 |_,_,_+1,.nil=>.nil
 |_,_,n+1,.cons _ t=>Vals.drop n t
def Im:Option V→Option Value→Prop
 |some v,some u=>RelV v u
 |none,none=>True
 |_,_=>False
def KV{κ:Type}:List (κ×V)→List (κ×Value)→Prop:=Paired fun(p:κ×V) (q:κ×Value)=>p.1=q.1∧RelV p.2 q.2
def kV:jS→V
 |.inl i=>.int i
 |.inr x=>.str x
inductive HO where
 /-- a list -/
 |lst (xs:List V)
 /-- a tuple (never changes) -/
 |tup (xs:List V)
 /-- a dict whose keys are ints and texts;one whose keys are tuples of ints and texts (the empty one is both) -/
 |dK (kvs:List (jS×V)) |dT (kvs:List (List jS×V))
 /-- a set of ints:its members,its size -/
 |set (S:Int→Bool) (n:Nat)
 /-- an instance of the class at C,its dict at dx,its attributes -/
 |ins (C dx:Addr) (fs:List (Str×V))
 /-- the dict of the instance at x -/
 |own (x:Addr)
 /-- the dict of an exception -/
 |xd (fs:List (Str×V))
 /-- a bound method,f of x -/
 |met (f x:Addr)
 /-- a range object lo,lo+1,.. below hi -/
 |rng (lo hi:Int)
 /-- a thing that is known to the object (the script;a dict while a loop walks it):read,never written while it is so -/
 |frz (o:Obj) (u:HO)
 /-- a code object's table -/
 |tbl (q:Str)
 /-- any other thing,by what is true of its one object (a def of one's own:SetO a S n:=HO.ext fun h=> ..) -/
 |ext (φ:Heap→Prop)
abbrev Hp:=Addr→Option HO
def upd(H:Hp)(a:Addr)(o:HO):Hp:=fun b=>if b=a then some o else H b
theorem upd_same{H:Hp}{o:HO}:upd H a o a=some o:=by unfold upd;rw[if_pos rfl]
theorem aC{H:Hp}{b:Addr}{o:HO}(h:b≠a):upd H a o b=H b:=by unfold upd;rw[if_neg h]
theorem bD{H:Hp}{b:Addr}{o:HO}(h:H a=some o)(h':H b=none):a≠b:=by
 intro e;subst e;rw[h]at h';cases h'
section
variable (P:Program) (w:World)
def ObjOk(H:Hp)(h:Heap)(a:Addr):HO→Prop
 |.lst xs=>xs.length≤sizeLine∧∃(its:List Value) (n:Nat),Vals xs its∧h.get? a=some {cls:=.type "list",data:=.seq its.toArray n}
 |.tup xs=>xs.length≤sizeLine∧∃its:List Value,Vals xs its∧IsTup h a its.toArray
 |.dK kvs=>kvs.length≤sizeLine∧(a == sysModules)=false∧∃vs,KV kvs vs∧h.DictOf (pc P w) a vs
 |.dT kvs=>kvs.length≤sizeLine∧(a == sysModules)=false∧∃xs:List (List jS×Addr×Value),
   Paired (fun(p:List jS×V) (q:List jS×Addr×Value)=>p.1=q.1∧H q.2.1=some (.tup (p.1.map kV))∧RelV p.2 q.2.2) kvs xs∧
   ∃o es ep,h.get? a=some o∧o.ExactDict∧o.data=.dict es ep∧es.toList=xs.map (entryOfKey (tupleKind (pc P w)))∧(xs.map (·.1)).Nodup
 |.set S n=>h.SetOf (intKind P w) a S n
 |.ins C dx fs=>H dx=some (.own a)∧fs.length≤1000∧dx≠a∧h.get? a=some (instObj C dx)∧
   ∃mA,h.Ns1 dx mA∧(∀f,Im (fs.lookup f) (mA f))∧PySem.Within mA (fs.map (·.1))
 |.own _=>∃o,h.get? a=some o
 |.xd fs=>∃mA,h.Ns1 a mA∧∀f,Im (fs.lookup f) (mA f)
 |.rng lo hi=>∃t u v,h.get? a=some {cls:=.type "range",data:=.fields #[.int lo t,.int hi u,.int 1 v]}
 |.frz o u=>h.get? a=some o∧ObjOk H h a u
 |.tbl q=>∃ps:Array Value,h.get? a=some (tabObj ps)∧TriplesOk ps.toList∧∀pos cv,codeAmong pos ps.toList=some cv→∃c,cv=Value.ref c∧H c=some (.own a)∧h.CodeRec cv q
 |.met f x=>h.get? a=some (methodObj (.ref f) (.ref x))
 |.ext φ=>φ h∧(∃o,h.get? a=some o)∧∀h1 h2:Heap,φ h1→(∀o,h1.get? a=some o→h2.get? a=some o)→φ h2
def HOk(H:Hp)(h:Heap):Prop:=∀a o,H a=some o→ObjOk P w H h a o
end
section
variable {P:Program} {w:World} {H H':Hp} {h h':Heap} {a:Addr} {o:HO}
theorem ObjOk.lt(x:ObjOk P w H h a o):a < h.objs.size:=by
 cases o with
 |lst xs=>obtain⟨_,_,_,_,e⟩:=x;exact fP e
 |tup xs=>obtain⟨_,_,_,p⟩:=x;exact p.lt
 |dK kvs=>obtain⟨_,_,_,_,o,_,_,e,_⟩:=x;exact fP e
 |dT kvs=>obtain⟨_,_,_,_,o,_,_,e,_⟩:=x;exact fP e
 |set S n=>obtain⟨o,_,_,_,e,_⟩:=x;exact fP e
 |ins C dx fs=>obtain⟨_,_,_,e,_⟩:=x;exact fP e
 |own y=>obtain⟨_,e⟩:=x;exact fP e
 |xd fs=>obtain⟨_,⟨_,_,_,e,_⟩,_⟩:=x;exact fP e
 |rng lo hi=>obtain⟨_,_,_,e⟩:=x;exact fP e
 |frz ob u=>obtain⟨e,_⟩:=x;exact fP e
 |tbl q=>obtain⟨_,e,_⟩:=x;exact fP e
 |met f y=>exact fP (show h.get? a=some _ from x)
 |ext φ=>obtain⟨_,⟨_,e⟩,_⟩:=x;exact fP e
theorem Paired.mapP{F G:α→β→Prop}{l₁:List α}{l₂:List β}(h:Paired F l₁ l₂)(f:∀a b,F a b→G a b):Paired G l₁ l₂:=by
 induction h with
 |nil=>exact .nil
 |cons r _ t=>exact .cons (f _ _ r) t
theorem ObjOk.stay(x:ObjOk P w H h a o)(k:∀b u,(b=a∨H b=some (.own a))→h.get? b=some u→h'.get? b=some u)
  (ho:∀b,H b=some (.own a)→H' b=some (.own a)) (ht:∀b xs,H b=some (.tup xs)→H' b=some (.tup xs)):ObjOk P w H' h' a o:=by
 induction o with
 |lst xs=>obtain⟨z,its,n,r,e⟩:=x;exact⟨z,its,n,r,k _ _ (.inl rfl) e⟩
 |tup xs=>obtain⟨z,its,r,ob,e,c⟩:=x;exact⟨z,its,r,ob,k _ _ (.inl rfl) e,c⟩
 |dK kvs=>obtain⟨z,y,vs,r,ob,es,ep,e,c⟩:=x;exact⟨z,y,vs,r,ob,es,ep,k _ _ (.inl rfl) e,c⟩
 |dT kvs=>
  obtain⟨z,y,xs,r,ob,es,ep,e,c⟩:=x
  exact⟨z,y,xs,Paired.mapP r fun p q z=>⟨z.1,ht _ _ z.2.1,z.2.2⟩,ob,es,ep,k _ _ (.inl rfl) e,c⟩
 |set S n=>obtain⟨ob,es,ep,t,e,c⟩:=x;exact⟨ob,es,ep,t,k _ _ (.inl rfl) e,c⟩
 |ins C dx fs=>
  obtain⟨d,z,ne,e,mA,⟨od,es,ep,e2,c⟩,r⟩:=x
  exact⟨ho _ d,z,ne,k _ _ (.inl rfl) e,mA,⟨od,es,ep,k _ _ (.inr d) e2,c⟩,r⟩
 |own y=>obtain⟨ob,e⟩:=x;exact⟨ob,k _ _ (.inl rfl) e⟩
 |xd fs=>obtain⟨mA,⟨od,es,ep,e,c⟩,r⟩:=x;exact⟨mA,⟨od,es,ep,k _ _ (.inl rfl) e,c⟩,r⟩
 |rng lo hi=>obtain⟨t,u,v,e⟩:=x;exact⟨t,u,v,k _ _ (.inl rfl) e⟩
 |frz ob u ih=>obtain⟨e,q⟩:=x;exact⟨k _ _ (.inl rfl) e,ih q⟩
 |tbl q=>
  obtain⟨ps,e,t,r⟩:=x
  refine⟨ps,k _ _ (.inl rfl) e,t,fun pos cv z=>?_⟩
  obtain⟨c,ec,ho',c2,oc,vs,tq,hc,hoc,hd⟩:=r pos cv z
  subst ec
  cases hc
  exact⟨c,rfl,ho _ ho',c,oc,vs,tq,rfl,k _ _ (.inr ho') hoc,hd⟩
 |met f y=>
  have e:h.get? a=some (methodObj (.ref f) (.ref y)):=x
  show h'.get? a=some (methodObj (.ref f) (.ref y))
  exact k a _ (.inl rfl) e
 |ext φ=>obtain⟨p,⟨o,e⟩,st⟩:=x;exact⟨st _ _ p fun o q=>k _ _ (.inl rfl) q,⟨o,k _ _ (.inl rfl) e⟩,st⟩
theorem HOk.lt(x:HOk P w H h)(e:H a=some o):a < h.objs.size:=(x a o e).lt
theorem HOk.fresh(x:HOk P w H h)(e:h.objs.size≤a):H a=none:=by
 cases q:H a with
 |none=>rfl
 |some u=>exact absurd (ma (x.lt q) e) (Nat.lt_irrefl _)
theorem HOk.kept(x:HOk P w H h)(k:∀b u,h.get? b=some u→h'.get? b=some u):HOk P w H h':=fun a o e=>
 (x a o e).stay (fun b u _ q=>k b u q) (fun _ q=>q) fun _ _ q=>q
theorem HOk.laid(x:HOk P w H h)(k:∀b u,h.get? b=some u→h'.get? b=some u)(hp:h.objs.size≤a)(new:ObjOk P w (upd H a o) h' a o):HOk P w (upd H a o) h':=fun b u e=>by
 have hn:=x.fresh hp
 by_cases hb:b=a
 ·subst hb;rw[upd_same]at e;cases e;exact new
 ·rw[aC hb]at e
  exact(x b u e).stay (fun c v _ q=>k c v q) (fun c q=>by rw[aC (bD q hn)];exact q) fun c xs q=>by rw[aC (bD q hn)];exact q
end
def Rd(H:Hp)(a:Addr)(u:HO):Prop:=H a=some u∨∃o,H a=some (.frz o u)
theorem Rd.ok{w:World}{H:Hp}{u:HO}(r:Rd H a u)(x:HOk P w H h):ObjOk P w H h a u:=by
 rcases r with r |⟨o,r⟩
 ·exact x a u r
 ·obtain⟨_,q⟩:=x a _ r
  exact q
def Mg:Option HO→Prop
 |some (.lst _)=>True
 |some (.dK _)=>True
 |some (.dT _)=>True
 |some (.set _ _)=>True
 |some (.ins _ _ _)=>True
 |some (.ext _)=>True
 |_=>False
section
variable {P:Program} {w:World} {H:Hp} {h h':Heap} {x e:Addr} {o':HO}
theorem HOk.write(ok:HOk P w H h)(mu:Mg (H x))(he:e=x∨H e=some (.own x))(k:∀b u,b≠e→h.get? b=some u→h'.get? b=some u)(heo:∃u,h'.get? e=some u)
  (new:ObjOk P w (upd H x o') h' x o'):HOk P w (upd H x o') h':=fun b u q=>by
 have nown:∀c y,H c=some (.own y)→c≠x:=fun c y r z=>by subst z;rw[r]at mu;exact mu
 have ntup:∀c xs,H c=some (.tup xs)→c≠x:=fun c xs r z=>by subst z;rw[r]at mu;exact mu
 by_cases hb:b=x
 ·subst hb;rw[upd_same]at q;cases q;exact new
 ·rw[aC hb]at q
  by_cases hbe:b=e
  ·have q':H b=some (.own x):=by
    rcases he with z |z
    ·exact absurd (hbe.trans z) hb
    ·rw[hbe];exact z
   rw[q]at q';cases q'
   obtain⟨v,hv⟩:=heo
   exact⟨v,by rw[hbe];exact hv⟩
  ·refine(ok b u q).stay (fun c v hc r=>k c v ?_ r) (fun c r=>by rw[aC (nown c b r)];exact r) fun c xs r=>by rw[aC (ntup c xs r)];exact r
   rcases hc with rfl |hc
   ·exact hbe
   ·rintro rfl
    rcases he with z |z
    ·exact nown c b hc z
    ·rw[hc]at z;cases z;exact hb rfl
end
structure Un (fs ex:List Addr) (H H':Hp) (h h':Heap):Prop where
 keep:∀b o,h.get? b=some o→H b=none→b∉fs→b∉ex→h'.get? b=some o
 slot:∀b o,h.get? b=some o→H b=none→b∈fs→b∉ex→∃sl,h'.get? b=some {o with slots:=sl}
 free:∀b o,h.get? b=some o→H b=none→b∉ex→H' b=none
 there:∀b o,h.get? b=some o→b∉ex→∃o',h'.get? b=some o'
 tups:∀b xs,H b=some (.tup xs)→H' b=some (.tup xs)
 frzs:∀b o u,H b=some (.frz o u)→H' b=some (.frz o u)
 tbls:∀b ps,H b=some (.tbl ps)→H' b=some (.tbl ps)
section
variable {fs fs' ex ex':List Addr} {H H1 H2:Hp} {h h1 h2 h':Heap} {a x e:Addr} {o:HO}
theorem Un.any(u:Un fs ex H H1 h h1){b:Addr}{ob:Obj}(q:h.get? b=some ob)(n:H b=none)(hx:b∉ex):∃sl,h1.get? b=some {ob with slots:=sl}:=by
 by_cases hb:b∈fs
 ·exact u.slot b ob q n hb hx
 ·exact⟨ob.slots,u.keep b ob q n hb hx⟩
theorem Un.kept(k:∀b u,h.get? b=some u→h'.get? b=some u):Un fs ex H H h h':=
 ⟨fun b ob q _ _ _=>k b ob q,fun b ob q _ _ _=>⟨ob.slots,k b ob q⟩,fun _ _ _ n _=>n,fun b ob q _=>⟨ob,k b ob q⟩,fun _ _ q=>q,fun _ _ _ q=>q,fun _ _ q=>q⟩
theorem Un.refl:Un fs ex H H h h:=Un.kept fun _ _ q=>q
theorem Un.laid(k:∀b u,h.get? b=some u→h'.get? b=some u)(hp:h.objs.size≤a)(hn:H a=none):Un fs ex H (upd H a o) h h' where
 keep:=fun b u q _ _ _=>k b u q
 slot:=fun b u q _ _ _=>⟨u.slots,k b u q⟩
 free:=fun b u q n _=>by rw[aC (gS (ma (fP q) hp))];exact n
 there:=fun b u q _=>⟨u,k b u q⟩
 tups:=fun b xs q=>by rw[aC (bD q hn)];exact q
 frzs:=fun b u xs q=>by rw[aC (bD q hn)];exact q
 tbls:=fun b ps q=>by rw[aC (bD q hn)];exact q
theorem Un.write(mu:Mg (H x))(he:e=x∨H e=some (.own x))(k:∀b u,b≠e→h.get? b=some u→h'.get? b=some u)(heo:∃u,h'.get? e=some u):Un fs ex H (upd H x o) h h':=by
 have hx:∀b,H b=none→b≠x:=fun b n z=>by subst z;rw[n]at mu;exact mu
 have hb:∀b,H b=none→b≠e:=fun b n z=>by
  subst z
  rcases he with r |r
  ·exact hx b n r
  ·rw[n]at r;cases r
 have hm:∀b u,H b=some u→¬Mg (some u)→b≠x:=fun b u q nm z=>by subst z;rw[q]at mu;exact nm mu
 refine⟨fun b u q n _ _=>k b u (hb b n) q,fun b u q n _ _=>⟨u.slots,k b u (hb b n) q⟩,fun b u q n _=>by rw[aC (hx b n)];exact n,fun b u q _=>?_,
  fun b xs q=>by rw[aC (hm b _ q fun z=>z)];exact q,fun b u xs q=>by rw[aC (hm b _ q fun z=>z)];exact q,fun b ps q=>by rw[aC (hm b _ q fun z=>z)];exact q⟩
 by_cases hbe:b=e
 ·subst hbe;exact heo
 ·exact⟨u,k b u hbe q⟩
end
def Mh(h:Heap)(H:Hp):List Addr:=(List.range h.objs.size).filter fun a=>(H a).isSome
def vI(h:Heap)(H:Hp):Heap:=hideAll h (Mh h H)
theorem Bk(h:Heap)(H:Hp):(vI h H).objs.size=h.objs.size:=PySem.W.hideAll_size _ _
theorem pB{H:Hp}{b:Addr}(e:h.get? b=some o)(n:H b=none):(vI h H).get? b=some o:=
 hideAll_get _ e fun hm=>by
  have q:(H b).isSome=true:=(List.mem_filter.mp hm).2
  rw[n]at q;simp at q
theorem FL{H:Hp}{b:Addr}(e:(vI h H).get? b=some o):h.get? b=some o∧H b=none:=by
 have e':h.get? b=some o:=of_hideAll (Mh h H) e
 refine⟨e',?_⟩
 cases q:H b with
 |none=>rfl
 |some x=>
  have hm:b∈Mh h H:=List.mem_filter.mpr ⟨List.mem_range.mpr (fP e'),by simp[q]⟩
  have z:(vI h H).get? b=none:=PySem.W.hideAll_none (Mh h H) hm
  rw[z]at e;cases e
def FM(g h:Heap)(L:Addr):List (Addr×Obj):=(List.range h.objs.size).filterMap fun a=>if a=L∨(g.get? a).isSome=true then none else (h.get? a).map fun o=>(a,o)
def eN(g h:Heap)(L d:Addr):List (Addr×Obj):=(FM g h L).filter fun p=>decide (p.1≠d)
end L2
variable {xs vs:List L2.V} {v v1 v2:L2.V} {H' F B' Hf:L2.Hp} {so:Option L2.HO}
namespace L2
open PySem PySem.Spec PyProof.Rows
def zQ(K:Frag)(n:Str):Option Addr:=match nsIn K mainGlobals n with
 |some (some (.ref f))=>match K.lookup f with
  |some ⟨_,_,.func fd,_⟩=>match fd.code with
   |.ref c=>match K.lookup c with
    |some ⟨_,_,.fields vs,_⟩=>match (vs[11]? :Option Value)with
     |some (.ref P)=>some P
     |_=>none
    |_=>none
   |_=>none
  |_=>none
 |_=>none
def rD:List (Str×Str):=[("in_told_order","in_told_order.<locals>.<lambda>")]
def FN(K:Frag)(b:Addr):List (Str×Str)→Option Str
 |[]=>none
 |n::r=>if zQ K n.1=some b then some n.2 else FN K b r
def mh(K:Frag)(b:Addr):Option Str:=FN K b rD
structure Mod (K:Frag) (mg:Str→Option Value) (base:Heap):Prop where
 kin:K.In base
 glob:base.Ns mainGlobals mg
 blt:∃mb,base.Ns builtinsNs mb∧∀x:Str,x≠"__name__"→mb x=bootBuiltins x
 nolimit:base.NoLimit
 bmain:∃bm ob,mg "__builtins__"=some (.ref bm)∧bm≠builtinsNs∧base.get? bm=some ob∧ob.cls=.type "module"∧ob.dict=some builtinsNs∧ob.data=.plain
structure Cx where
 prog:Program
 w:World
 K:Frag
 mg:Str→Option Value
 base:Heap
 A:Around
 N:List Str
 s₀:Shared
 H₀:Hp
 env:Env
 outer:List Env
 stack:List Env
 ex:List Addr
 fn:Str→Bool
 calm:Bool
 pn:List (Addr×Obj)
 xe:Value→Shared→Prop
def iz(l:List Env):List Addr:=l.filterMap (·.frame)
abbrev Cx.fs(X:Cx):List Addr:=iz X.outer
def Bl(sc:Scope)(x:Str):Prop:=sc.names.lookup x=some .local∨sc.names.lookup x=some .cell∨sc.names.lookup x=some .free
def Io(sc:Scope)(x:Str):Prop:=sc.names.lookup x=some .local∨sc.names.lookup x=some .cell
def Mr(env:Env)(h:Heap)(m:Str→Option Value)(x:Str)(u:Value):Prop:=
 (env.kindOf x=some .local∧m x=some u)∨((env.kindOf x=some .cell∨env.kindOf x=some .free)∧∃c,env.cells.lookup x=some c∧h.IsCell c (some u))
structure Cx.Ok (X:Cx):Prop where
 mod:Mod X.K X.mg X.base
 kind:X.env.scope.kind=.function
 glob:X.env.globals=mainGlobals
 blt:X.env.builtins=builtinsNs
 above:X.s₀.heap.objs.size≤X.env.locals
 inj:∀x y c,X.env.cells.lookup x=some c→X.env.cells.lookup y=some c→x=y
 has:∀x,(X.env.kindOf x=some .cell∨X.env.kindOf x=some .free)→∃c,X.env.cells.lookup x=some c
 cab:∀x c,X.fn x=true→X.env.cells.lookup x=some c→X.s₀.heap.objs.size≤c
 hd:X.calm=true→X.A.handled=none
 frames:X.A.frames=some X.stack
 stk:X.stack=X.outer∨(X.stack=X.env::X.outer∧X.env.frame=some X.env.locals)
 exf:∀b∈X.ex,b≠X.env.locals∧∀x c,X.env.cells.lookup x=some c→c≠b
 bs:∀b o,X.base.get? b=some o→X.s₀.heap.get? b=some o∧X.H₀ b=none
 bsz:X.base.objs.size≤X.s₀.heap.objs.size
 noex:∀b o,X.base.get? b=some o→b∉X.ex
 exfs:∀b∈X.ex,b∉X.fs
 funs:X.s₀.heap.FunFrames X.base X.outer
 frf:∀b∈X.fs,X.H₀ b=none
 tab:∀b q,mh X.K b=some q→X.H₀ b=some (.tbl q)
structure Inv (X:Cx) (pins:List (Addr×Obj)) (σ:List (Option V)) (H:Hp) (s:Shared):Prop where
 ok:X.Ok
 os:s.os=X.s₀.os
 bare:AllBare s.gens
 base:Un X.fs X.ex X.H₀ H X.s₀.heap s.heap
 loc:∃m,s.heap.Ns X.env.locals m∧∀(i:Nat) (x:Str) (v:V),X.N[i]? =some x→σ[i]? =some (some v)→Bl X.env.scope x→∃u,RelV v u∧Mr X.env s.heap m x u
 cell:∀x c,X.env.cells.lookup x=some c→∃v,s.heap.IsCell c v
 free:H X.env.locals=none
 freeC:∀x c,X.env.cells.lookup x=some c→H c=none
 pin:∀p∈X.pn++pins,s.heap.get? p.1=some p.2∧H p.1=none∧p.1≠X.env.locals∧p.1∉X.fs∧∀v,p.2.data≠ .cell v
 hok:HOk X.prog X.w H s.heap
 len:σ.length=X.N.length
section
variable {X:Cx} {pins:List (Addr×Obj)} {σ:List (Option V)} {H H':Hp} {s:Shared} {h':Heap}
theorem Cx.Ok.nofr(ok:X.Ok){b:Addr}(e:X.base.get? b=some o):b∉X.fs:=fun hb=>by
 have:=(ok.funs.mem hb).1
 rw[e]at this;cases this
theorem Inv.bs(I:Inv X pins σ H s):∀b o,X.base.get? b=some o→s.heap.get? b=some o∧H b=none:=fun b o e=>
 ⟨I.base.keep b o (I.ok.bs b o e).1 (I.ok.bs b o e).2 (I.ok.nofr e) (I.ok.noex b o e),I.base.free b o (I.ok.bs b o e).1 (I.ok.bs b o e).2 (I.ok.noex b o e)⟩
theorem Inv.bk(I:Inv X pins σ H s):∀b o,X.base.get? b=some o→s.heap.get? b=some o:=fun b o e=>(I.bs b o e).1
theorem Inv.mod(I:Inv X pins σ H s):Mod X.K X.mg X.base:=I.ok.mod
theorem Inv.tab(I:Inv X pins σ H s):∀b q,mh X.K b=some q→H b=some (.tbl q):=fun b q e=>I.base.tbls b q (I.ok.tab b q e)
theorem Inv.kIn(I:Inv X pins σ H s):X.K.In s.heap:=I.ok.mod.kin.keeps I.bk
theorem Inv.nolimit(I:Inv X pins σ H s):s.heap.NoLimit:=I.ok.mod.nolimit.keeps I.bk
theorem Inv.lt(I:Inv X pins σ H s):X.env.locals < s.heap.objs.size:=let ⟨_,hn,_⟩:=I.loc;hn.lt
theorem Inv.sz(I:Inv X pins σ H s):X.s₀.heap.objs.size≤s.heap.objs.size:=jP I.ok.above (lq I.lt)
theorem Inv.nofs(I:Inv X pins σ H s)(h:s.heap.objs.size≤a):a∉X.fs:=fun hb=>by
 obtain⟨_,o,ho,_⟩:=I.ok.funs.mem hb
 exact absurd (ma (fP ho) (jP I.sz h)) (Nat.lt_irrefl _)
theorem Inv.cne(I:Inv X pins σ H s):∀x c,X.env.cells.lookup x=some c→c≠X.env.locals:=fun x c e z=>by
 obtain⟨v,o,ho,hd⟩:=I.cell x c e
 obtain⟨m,⟨o',es,ep,ho',hd',_⟩,_⟩:=I.loc
 rw[z,ho']at ho;cases ho;rw[hd']at hd;cases hd
theorem Inv.funs(I:Inv X pins σ H s):s.heap.FunFrames X.base X.outer:=by
 have all:∀(l:List Env),(∀b∈iz l,b∈X.fs)→X.s₀.heap.FunFrames X.base l→s.heap.FunFrames X.base l:=by
  intro l
  induction l with
  |nil=>intro _ _;trivial
  |cons env r ih=>
   intro hs hl
   obtain⟨hk,⟨L,o,hf,hn,ho,hd⟩,hr⟩:=hl
   have hL:L∈X.fs:=hs L (by unfold iz;rw[List.filterMap_cons,hf];exact gE)
   obtain⟨sl,e⟩:=I.base.slot L o ho (I.ok.frf L hL) hL fun z=>I.ok.exfs L z hL
   exact⟨hk,⟨L,_,hf,hn,e,hd⟩,ih (fun b hb=>hs b (by unfold iz;rw[List.filterMap_cons,hf];exact gQ _ hb)) hr⟩
 exact all X.outer (fun _ hb=>hb) I.ok.funs
theorem Inv.stack(I:Inv X pins σ H s):s.heap.FunFrames X.base X.stack:=by
 rcases I.ok.stk with e |⟨e,hf⟩
 ·rw[e];exact I.funs
 ·rw[e]
  obtain⟨m,hn,_⟩:=I.loc
  refine .cons (by rw[I.ok.kind];decide) hf hn ?_ I.funs
  exact Heap.get?_none_of_le (jP I.ok.bsz I.ok.above)
theorem Inv.stkSub(I:Inv X pins σ H s):∀b∈iz X.stack,b∈X.env.locals::X.fs:=fun b hb=>by
 rcases I.ok.stk with e |⟨e,hf⟩
 ·rw[e]at hb;exact gQ _ hb
 ·rw[e]at hb
  unfold iz at hb
  rw[List.filterMap_cons,hf]at hb
  exact hb
theorem Inv.stkFree(I:Inv X pins σ H s):∀b∈iz X.stack,H b=none:=fun b hb=>by
 rcases Zag.mp (I.stkSub b hb)with e |hb
 ·rw[e];exact I.free
 ·obtain⟨_,o,ho,_⟩:=I.ok.funs.mem hb
  exact I.base.free b o ho (I.ok.frf b hb) fun z=>I.ok.exfs b z hb
theorem Inv.step{g':Array GenState}{d':Drawn}(I:Inv X pins σ H s)
  (hch:∀b∈ch,(b∈X.ex∨X.s₀.heap.objs.size≤b)∧b≠X.env.locals∧(∀x c,X.env.cells.lookup x=some c→c≠b)∧∀p∈X.pn++pins,p.1≠b)
  (keep:∀b o,b≠X.env.locals→b∉X.fs→b∉ch→s.heap.get? b=some o→H b=none→h'.get? b=some o)
  (slot:∀b o,b≠X.env.locals→b∈X.fs→b∉ch→s.heap.get? b=some o→H b=none→∃sl,h'.get? b=some {o with slots:=sl}) (free:∀b o,b∉ch→s.heap.get? b=some o→H b=none→H' b=none)
  (there:∀b o,b∉ch→s.heap.get? b=some o→∃o',h'.get? b=some o')
  (tups:∀b xs,H b=some (.tup xs)→H' b=some (.tup xs)) (frzs:∀b o u,H b=some (.frz o u)→H' b=some (.frz o u)) (tbls:∀b ps,H b=some (.tbl ps)→H' b=some (.tbl ps))
  (ns:∀m,s.heap.Ns X.env.locals m→h'.Ns X.env.locals m) (hok:HOk X.prog X.w H' h') (hg:AllBare g'):
  Inv X pins σ H' {s with heap:=h',gens:=g',drawn:=d',toks:=t'}:=by
 have neL:∀b o,X.s₀.heap.get? b=some o→b≠X.env.locals:=fun b o e=>gS (ma (fP e) I.ok.above)
 have neC:∀b o,X.s₀.heap.get? b=some o→b∉X.ex→b∉ch:=fun b o e hx hb=>by
  rcases(hch b hb).1 with z |z
  ·exact hx z
  ·exact absurd (ma (fP e) z) (Nat.lt_irrefl _)
 have cellK:∀x c,X.env.cells.lookup x=some c→∀v,s.heap.IsCell c v→h'.IsCell c v:=fun x c e v ⟨o,ho,hd⟩=>by
  have nch:c∉ch:=fun z=>(hch c z).2.2.1 x c e rfl
  by_cases hc:c∈X.fs
  ·obtain⟨sl,q⟩:=slot c o (I.cne x c e) hc nch ho (I.freeC x c e)
   exact⟨_,q,hd⟩
  ·exact⟨o,keep c o (I.cne x c e) hc nch ho (I.freeC x c e),hd⟩
 refine⟨I.ok,I.os,hg,⟨fun b o e n hb hx=>?_,fun b o e n hb hx=>?_,fun b o e n hx=>?_,fun b o e hx=>?_,fun b xs e=>tups b xs (I.base.tups b xs e),fun b o xs e=>frzs b o xs (I.base.frzs b o xs e),fun b ps e=>?_⟩,?_,fun x c e=>?_,?_,fun x c e=>?_,fun p hp=>?_,hok,I.len⟩
 ·exact keep b o (neL b o e) hb (neC b o e hx) (I.base.keep b o e n hb hx) (I.base.free b o e n hx)
 ·obtain⟨sl,e1⟩:=I.base.slot b o e n hb hx
  obtain⟨sl',e2⟩:=slot b _ (neL b o e) hb (neC b o e hx) e1 (I.base.free b o e n hx)
  exact⟨sl',e2⟩
 ·obtain⟨o',e1⟩:=I.base.there b o e hx
  exact free b o' (neC b o e hx) e1 (I.base.free b o e n hx)
 ·obtain⟨o',e1⟩:=I.base.there b o e hx
  exact there b o' (neC b o e hx) e1
 ·exact tbls b _ (I.base.tbls b ps e)
 ·obtain⟨m,hn,hl⟩:=I.loc
  refine⟨m,ns m hn,fun i x v e1 e2 e3=>?_⟩
  obtain⟨u,r,l⟩:=hl i x v e1 e2 e3
  refine⟨u,r,?_⟩
  rcases l with l |⟨k,c,e,z⟩
  ·exact .inl l
  ·exact .inr ⟨k,c,e,cellK x c e _ z⟩
 ·obtain⟨v,z⟩:=I.cell x c e
  exact⟨v,cellK x c e v z⟩
 ·obtain⟨m,⟨o,_,_,ho,_⟩,_⟩:=I.loc
  exact free _ o (fun z=>(hch _ z).2.1 rfl) ho I.free
 ·obtain⟨v,o,ho,hd⟩:=I.cell x c e
  exact free c o (fun z=>(hch c z).2.2.1 x c e rfl) ho (I.freeC x c e)
 ·obtain⟨e,n,ne,nf,d⟩:=I.pin p hp
  have nch:p.1∉ch:=fun z=>(hch p.1 z).2.2.2 p hp rfl
  exact⟨keep p.1 p.2 ne nf nch e n,free p.1 p.2 nch e n,ne,nf,d⟩
theorem Inv.un(I:Inv X pins σ H s)(u:Un X.fs [] H H' s.heap h')(hok:HOk X.prog X.w H' h'):Inv X pins σ H' {s with heap:=h',toks:=t'}:=by
 obtain⟨m,⟨o,es,ep,ho,r⟩,_⟩:=id I.loc
 obtain⟨sl,hL⟩:=u.any ho I.free (by simp)
 exact I.step (g':=s.gens) (d':=s.drawn) (ch:=[]) (fun _ z=>nomatch z) (fun b o _ hb _ e n=>u.keep b o e n hb (by simp)) (fun b o _ hb _ e n=>u.slot b o e n hb (by simp)) (fun b o _ e n=>u.free b o e n (by simp)) (fun b o _ e=>u.there b o e (by simp)) u.tups u.frzs u.tbls (fun m' hm=>by
  obtain⟨o',es',ep',ho',r'⟩:=hm
  rw[ho]at ho';cases ho'
  exact⟨_,es',ep',hL,r'⟩) hok I.bare
theorem Inv.call{g':Array GenState}{d':Drawn}(I:Inv X pins σ H s)(u:Un (iz X.stack) ch H H' s.heap h')(hok:HOk X.prog X.w H' h')(hg:AllBare g')
  (hch:∀b∈ch,(b∈X.ex∨X.s₀.heap.objs.size≤b)∧b≠X.env.locals∧(∀x c,X.env.cells.lookup x=some c→c≠b)∧∀p∈X.pn++pins,p.1≠b):
  Inv X pins σ H' {s with heap:=h',gens:=g',drawn:=d',toks:=t'}:=by
 obtain⟨m,⟨o,es,ep,ho,r⟩,_⟩:=id I.loc
 obtain⟨sl,hL⟩:=u.any ho I.free fun z=>(hch _ z).2.1 rfl
 exact I.step (ch:=ch) hch (fun b o hL hb hc e n=>u.keep b o e n (fun z=>(Zag.mp (I.stkSub b z)).elim hL hb) hc) (fun b o _ _ hc e n=>u.any e n hc) (fun b o hc e n=>u.free b o e n hc) (fun b o hc e=>u.there b o e hc) u.tups u.frzs u.tbls (fun m' hm=>by
  obtain⟨o',es',ep',ho',r'⟩:=hm
  rw[ho]at ho';cases ho'
  exact⟨_,es',ep',hL,r'⟩) hok hg
theorem Inv.turned{it:Addr}(I:Inv X pins σ H s)(k:∀b o,b≠it→s.heap.get? b=some o→h'.get? b=some o)(hn:H it=none)(hL:it≠X.env.locals)
  (h1:it∈X.ex∨X.s₀.heap.objs.size≤it) (h2:∀x c,X.env.cells.lookup x=some c→c≠it) (h3:∀p∈X.pn++pins,p.1≠it):Inv X pins σ H {s with heap:=h',toks:=t'}:=by
 have nit:∀b u,H b=some u→b≠it:=fun b u e z=>by rw[z,hn]at e;cases e
 refine I.step (g':=s.gens) (d':=s.drawn) (ch:=[it]) (fun b hb=>?_) (fun b o _ _ hc e _=>k b o (fun z=>hc (by simp[z])) e) (fun b o _ _ hc e _=>⟨o.slots,k b o (fun z=>hc (by simp[z])) e⟩) (fun _ _ _ _ n=>n)
  (fun b o hc e=>⟨o,k b o (fun z=>hc (by simp[z])) e⟩) (fun _ _ e=>e) (fun _ _ _ e=>e) (fun _ _ e=>e) (fun m hm=>?_) (fun b u e=>?_) I.bare
 ·have e:b=it:=by simpa using hb
  subst e
  exact⟨h1,hL,h2,h3⟩
 ·obtain⟨o,es,ep,ho,r⟩:=hm
  exact⟨o,es,ep,k _ o (Ne.symm hL) ho,r⟩
 ·refine(I.hok b u e).stay (fun c v hc q=>k c v ?_ q) (fun _ q=>q) fun _ _ q=>q
  rcases hc with z |z
  ·rw[z];exact nit b u e
  ·exact nit c _ z
theorem Inv.tok(I:Inv X pins σ H s)(t:Nat):Inv X pins σ H {s with toks:=t}:=I.un (h':=s.heap) (t':=t) Un.refl I.hok
theorem Inv.kept(I:Inv X pins σ H s)(k:∀b u,s.heap.get? b=some u→h'.get? b=some u):Inv X pins σ H {s with heap:=h',toks:=t'}:=I.un (Un.kept k) (I.hok.kept k)
theorem Inv.laid{o:HO}(I:Inv X pins σ H s)(k:∀b u,s.heap.get? b=some u→h'.get? b=some u)(hp:s.heap.objs.size≤a)(new:ObjOk X.prog X.w (upd H a o) h' a o):
  Inv X pins σ (upd H a o) {s with heap:=h',toks:=t'}:=I.un (Un.laid k hp (I.hok.fresh hp)) (I.hok.laid k hp new)
theorem Inv.write{x e:Addr}{o:HO}(I:Inv X pins σ H s)(mu:Mg (H x))(he:e=x∨H e=some (.own x))(k:∀b u,b≠e→s.heap.get? b=some u→h'.get? b=some u)(heo:∃u,h'.get? e=some u)
  (new:ObjOk X.prog X.w (upd H x o) h' x o):Inv X pins σ (upd H x o) {s with heap:=h',toks:=t'}:=I.un (Un.write mu he k heo) (I.hok.write mu he k heo new)
theorem Inv.pins_of{pins':List (Addr×Obj)}(I:Inv X pins σ H s)(h:∀p∈pins',s.heap.get? p.1=some p.2∧H p.1=none∧p.1≠X.env.locals∧p.1∉X.fs∧∀v,p.2.data≠ .cell v):Inv X pins' σ H s:=
 ⟨I.ok,I.os,I.bare,I.base,I.loc,I.cell,I.free,I.freeC,fun p hp=>(Zah.mp hp).elim (fun z=>I.pin p (List.mem_append_left _ z)) (h p),I.hok,I.len⟩
theorem pD{N:List Str}(hN:N.Nodup){i:Nat}(a:N[i]? =some x)(b:N[j]? =some x):i=j:=by
 obtain⟨h1,e1⟩:=Zav.mp a
 obtain⟨h2,e2⟩:=Zav.mp b
 exact(List.getElem_inj hN).mp (e1.trans e2.symm)
theorem Bm{M:Model}{A:Around}{E:Value→Shared→Prop}{i:Nat}{u:Value}{Q:Unit→Shared→Prop}(I:Inv X pins σ H s)(hN:X.N.Nodup)(hi:X.N[i]? =some x)(hx:Io X.env.scope x)(r:RelV v u)
  (h:∀s',Inv X pins (σ.set i (some v)) H s'→(∃a,Heap.SameBut a s.heap s'.heap∧(a=X.env.locals∨X.env.cells.lookup x=some a))→Q () s') (hf:X.fn x=true∨X.env.scope.names.lookup x=some .local:=by first |exact .inl rfl |exact .inr rfl |assumption):wpAny M A (storeName X.env x u) Q E s:=by
 obtain⟨m,hn,hl⟩:=id I.loc
 have hcls:(X.env.scope.kind ==.class||(X.env.scope.kind ==.module&&X.env.locals != X.env.globals))=false:=by rw[I.ok.kind];rfl
 have hiσ:i < σ.length:=by rw[I.len];exact(Zav.mp hi).1
 have cne:=I.cne
 have tracked:∀{a:Addr} {h':Heap},(∃o,s.heap.get? a=some o∧H a=none)→Heap.SameBut a s.heap h'→HOk X.prog X.w H h':=fun {a h'} ha hs b ob e=>by
  obtain⟨_,_,hfree⟩:=ha
  refine(I.hok b ob e).stay (fun c w' hc q=>(hs.2 c ?_).trans q) (fun _ q=>q) fun _ _ q=>q
  rintro rfl
  rcases hc with rfl |hc
  ·rw[hfree]at e;cases e
  ·rw[hfree]at hc;cases hc
 rcases hx with hk |hk
 ·refine wpAny_storeName_local hk hn (fun h' hn' hs=>?_) hcls
  obtain⟨oL,_,_,hoL,_⟩:=id hn
  refine h _ ⟨I.ok,I.os,I.bare,⟨fun b o e n hb hx=>?_,fun b o e n hb hx=>?_,I.base.free,fun b o e hx=>?_,I.base.tups,I.base.frzs,I.base.tbls⟩,⟨_,hn',fun j y v' e1 e2 e3=>?_⟩,fun y c e=>?_,I.free,I.freeC,fun p hp=>?_,tracked ⟨oL,hoL,I.free⟩ hs,by simpa using I.len⟩ ⟨_,hs,.inl rfl⟩
  ·exact(hs.2 b (gS (ma (fP e) I.ok.above))).trans (I.base.keep b o e n hb hx)
  ·obtain⟨sl,e1⟩:=I.base.slot b o e n hb hx
   exact⟨sl,(hs.2 b (gS (ma (fP e) I.ok.above))).trans e1⟩
  ·obtain⟨o',e1⟩:=I.base.there b o e hx
   exact⟨o',(hs.2 b (gS (ma (fP e) I.ok.above))).trans e1⟩
  ·by_cases hj:j=i
   ·subst hj
    rw[hi]at e1;cases e1
    rw[List.getElem?_set_self hiσ]at e2
    cases e2
    exact⟨u,r,.inl ⟨hk,by simp⟩⟩
   ·rw[List.getElem?_set_ne (Ne.symm hj)]at e2
    obtain⟨u',r',q⟩:=hl j y v' e1 e2 e3
    refine⟨u',r',?_⟩
    rcases q with⟨k,e⟩ |⟨k,c,e,z⟩
    ·refine .inl ⟨k,?_⟩
     have:y≠x:=fun e=>hj (pD hN e1 (e▸hi))
     simp[this,e]
    ·exact .inr ⟨k,c,e,z.sameBut hs (cne y c e)⟩
  ·obtain⟨w',z⟩:=I.cell y c e
   exact⟨w',z.sameBut hs (cne y c e)⟩
  ·obtain⟨e,n,ne,nf,d⟩:=I.pin p hp
   exact⟨(hs.2 p.1 ne).trans e,n,ne,nf,d⟩
 ·have hfn:X.fn x=true:=by
   rcases hf with z |z
   ·exact z
   ·rw[z]at hk;cases hk
  obtain⟨c,hc⟩:=I.ok.has x (.inl hk)
  obtain⟨w',z⟩:=I.cell x c hc
  refine wpAny_storeName_cell I.ok.kind hk hc z (fun h' hc' hs=>?_)
  obtain⟨oc,hoc,hocd⟩:=id z
  refine h {s with heap:=h'} ⟨I.ok,I.os,I.bare,⟨fun b o e n hb hx=>?_,fun b o e n hb hx=>?_,I.base.free,fun b o e hx=>?_,I.base.tups,I.base.frzs,I.base.tbls⟩,⟨m,hn.sameBut hs (Ne.symm (cne x c hc)),fun j y v' e1 e2 e3=>?_⟩,fun y c' e=>?_,I.free,I.freeC,fun p hp=>?_,tracked ⟨oc,hoc,I.freeC x c hc⟩ hs,by simpa using I.len⟩ ⟨c,hs,.inr hc⟩
  ·exact(hs.2 b (gS (ma (fP e) (I.ok.cab x c hfn hc)))).trans (I.base.keep b o e n hb hx)
  ·obtain⟨sl,e1⟩:=I.base.slot b o e n hb hx
   exact⟨sl,(hs.2 b (gS (ma (fP e) (I.ok.cab x c hfn hc)))).trans e1⟩
  ·obtain⟨o',e1⟩:=I.base.there b o e hx
   exact⟨o',(hs.2 b (gS (ma (fP e) (I.ok.cab x c hfn hc)))).trans e1⟩
  ·by_cases hj:j=i
   ·subst hj
    rw[hi]at e1;cases e1
    rw[List.getElem?_set_self hiσ]at e2
    cases e2
    exact⟨u,r,.inr ⟨.inl hk,c,hc,hc'⟩⟩
   ·rw[List.getElem?_set_ne (Ne.symm hj)]at e2
    obtain⟨u',r',q⟩:=hl j y v' e1 e2 e3
    refine⟨u',r',?_⟩
    rcases q with q |⟨k,c',e,z'⟩
    ·exact .inl q
    ·refine .inr ⟨k,c',e,z'.sameBut hs ?_⟩
     rintro rfl
     exact hj (pD hN e1 (I.ok.inj _ _ _ e hc▸hi))
  ·by_cases hcc:c'=c
   ·subst hcc;exact⟨_,hc'⟩
   ·obtain⟨w2,z2⟩:=I.cell y c' e
    exact⟨w2,z2.sameBut hs hcc⟩
  ·obtain⟨e,n,ne,nf,d⟩:=I.pin p hp
   refine⟨(hs.2 p.1 ?_).trans e,n,ne,nf,d⟩
   intro q
   rw[q,hoc]at e
   have q':oc=p.2:=Option.some.inj e
   exact d w' (by rw[←q'];exact hocd)
theorem pE{M:Model}{A:Around}{E:Value→Shared→Prop}{i:Nat}{u:Value}{Q:Unit→Shared→Prop}(I:Inv X pins σ H s)(hN:X.N.Nodup)(hi:X.N[i]? =some x)(hx:Io X.env.scope x)(r:RelV v u)
  (h:∀s',Inv X pins (σ.set i (some v)) H s'→Q () s') (hf:X.fn x=true∨X.env.scope.names.lookup x=some .local:=by first |exact .inl rfl |exact .inr rfl |assumption):wpAny M A (storeName X.env x u) Q E s:=
 Bm I hN hi hx r (fun s' I' _=>h s' I') hf
theorem Inv.call'{s':Shared}(I:Inv X pins σ H s)(ho:s'.os=s.os)(u:Un (iz X.stack) ch H H' s.heap s'.heap)(hok:HOk X.prog X.w H' s'.heap)(hg:AllBare s'.gens)
  (hch:∀b∈ch,(b∈X.ex∨X.s₀.heap.objs.size≤b)∧b≠X.env.locals∧(∀x c,X.env.cells.lookup x=some c→c≠b)∧∀p∈X.pn++pins,p.1≠b):Inv X pins σ H' s':=by
 obtain⟨h',g',d',t',o'⟩:=s'
 have e:o'=s.os:=ho
 subst e
 exact I.call (g':=g') (t':=t') (d':=d') u hok hg hch
end
abbrev XK:=Value→Option Addr→Hp→Prop
abbrev St:=List (Option V)
abbrev VK:=V→Hp→Prop
abbrev TE:=St→Hp→VK→Prop
abbrev TT:=St→Hp→(Bool→Hp→Prop)→Prop
abbrev TA:=St→Hp→(List V→Hp→Prop)→Prop
structure Ends where
 nx:St→Hp→Prop
 rt:VK
 bk:St→Hp→Prop:=fun _ _=>False
 ct:St→Hp→Prop:=fun _ _=>False
abbrev TS:=Ends→St→Hp→Prop
def EP(X:Cx)(pins:List (Addr×Obj))(σ:St)(Q:VK)(u:Value)(s':Shared):Prop:=∃v H',Inv X pins σ H' s'∧RelV v u∧Q v H'
def TP(X:Cx)(pins:List (Addr×Obj))(σ:St)(Q:Bool→Hp→Prop)(b:Bool)(s':Shared):Prop:=∃H',Inv X pins σ H' s'∧Q b H'
def AP(X:Cx)(pins:List (Addr×Obj))(σ:St)(Q:List V→Hp→Prop)(us:List Value)(s':Shared):Prop:=∃vs H',Inv X pins σ H' s'∧Vals vs us∧Q vs H'
def SP(X:Cx)(pins:List (Addr×Obj))(D:Ends)(f:Flow)(s':Shared):Prop:=
 match f with
 |.next=>∃σ' H',Inv X pins σ' H' s'∧D.nx σ' H'
 |.brk=>∃σ' H',Inv X pins σ' H' s'∧D.bk σ' H'
 |.cont=>∃σ' H',Inv X pins σ' H' s'∧D.ct σ' H'
 |.ret u=>∃v σ' H',Inv X pins σ' H' s'∧RelV v u∧D.rt v H'
def PE(X:Cx)(e:Expr)(t:TE):Prop:=
 ∀(pins:List (Addr×Obj)) (s:Shared) (σ:St) (H:Hp) (Q:VK),Inv X pins σ H s→t σ H Q→wpAny (model X.prog X.w) X.A (eval e X.env) (EP X pins σ Q) X.xe s
def PT(X:Cx)(e:Expr)(t:TT):Prop:=
 ∀(pins:List (Addr×Obj)) (s:Shared) (σ:St) (H:Hp) (Q:Bool→Hp→Prop),Inv X pins σ H s→t σ H Q→wpAny (model X.prog X.w) X.A (isTrue e X.env (eval e X.env)) (TP X pins σ Q) X.xe s
def PW(X:Cx)(e:Expr)(t:TT):Prop:=
 ∀(whole:Sem Value) (pins:List (Addr×Obj)) (s:Shared) (σ:St) (H:Hp) (Q:Bool→Hp→Prop),Inv X pins σ H s→t σ H Q→wpAny (model X.prog X.w) X.A (isTrue e X.env whole) (TP X pins σ Q) X.xe s
theorem PW.pt{X:Cx}{t:TT}(h:PW X e t):PT X e t:=h _
def PA(X:Cx)(es:List Expr)(t:TA):Prop:=
 ∀(pos:Pos) (pins:List (Addr×Obj)) (s:Shared) (σ:St) (H:Hp) (Q:List V→Hp→Prop),Inv X pins σ H s→t σ H Q→wpAny (model X.prog X.w) X.A (spliced (backTo pos (starEach es X.env))) (AP X pins σ Q) X.xe s
def PS(X:Cx)(st:Stmt)(t:TS):Prop:=
 ∀(pins:List (Addr×Obj)) (s:Shared) (σ:St) (H:Hp) (D:Ends),Inv X pins σ H s→t D σ H→wpAny (model X.prog X.w) X.A (exec st X.env) (SP X pins D) X.xe s
def PSs(X:Cx)(st:List Stmt)(t:TS):Prop:=
 ∀(pins:List (Addr×Obj)) (s:Shared) (σ:St) (H:Hp) (D:Ends),Inv X pins σ H s→t D σ H→wpAny (model X.prog X.w) X.A (execs st X.env) (SP X pins D) X.xe s
theorem dw{t:Sem α}{Q Q':α→Shared→Prop}{M:Model}{A:Around}{E:Value→Shared→Prop}{s:Shared}(h:wpAny M A t Q E s)(hQ:∀a s,Q a s→Q' a s):wpAny M A t Q' E s:=zz2 h hQ fun _ _ x=>x
end L2
variable {X:L2.Cx} {D:L2.Ends}
namespace L2
open PySem PySem.Spec PyProof.Rows
section
variable {X:Cx}
def Ms(i:Nat):TE:=fun σ H Q=>∃v,σ[i]? =some (some v)∧Q v H
def tC(v:V):TE:=fun _ H Q=>Q v H
theorem lr{i:Nat}  {pos:Pos} (hN:X.N[i]? =some x) (hv:Bl X.env.scope x) (hd:(x == ("__debug__":Str))=false:=by decide) (hcd:(x == ("__classdict__":Str))=false:=by decide):PE X (.Name x pos) (Ms i):=by
 intro pins s σ H Q I h
 obtain⟨v,e,h⟩:=h
 obtain⟨m,hn,hl⟩:=I.loc
 obtain⟨u,r,l⟩:=hl i x v hN e hv
 have fin:EP X pins σ Q u s:=⟨v,H,I,r,h⟩
 rcases l with⟨hk,hm⟩ |⟨hk,c,hc,hcell⟩
 ·exact wpAny_Name (wpAny_loadName_local I.ok.kind hk hn hm fin) hd
 ·rcases hk with hk |hk
  ·exact wpAny_Name (wpAny_loadName_cell I.ok.kind hk hc hcell fin) hd
  ·exact wpAny_Name (wpAny_loadName_free I.ok.kind hk hc hcell fin hcd) hd
theorem Ip{i j pos}:PE X (.Constant (.int i) j pos) (tC (.int i)):=fun _ _ _ H _ I h=>wpAny_Constant_int ⟨.int i,H,I.tok _,⟨_,rfl⟩,h⟩
theorem CQ{b j pos}:PE X (.Constant (.bool b) j pos) (tC (.bl b)):=fun _ _ _ H _ I h=>Constant_bool ⟨.bl b,H,I,rfl,h⟩
theorem Iq{j pos}:PE X (.Constant .none j pos) (tC .non):=fun _ _ _ H _ I h=>Constant_none ⟨.non,H,I,rfl,h⟩
theorem sU{x j pos}:PE X (.Constant (.str x) j pos) (tC (.str x)):=fun _ _ _ H _ I h=>Calls.Constant_str ⟨.str x,H,I.tok _,⟨_,rfl⟩,h⟩
def Gl(X:Cx)(x:Str):Prop:=X.env.kindOf x=some .globalImplicit
theorem fX{E:Value→Shared→Prop}{s:Shared}{σ:St}{H:Hp}{u:Value}{pos:Pos}(I:Inv X pins σ H s)(hg:Gl X x)(hm:X.mg x=some u)(h:Q u s)
  (hd:(x == ("__debug__":Str))=false:=by decide):wpAny (model X.prog X.w) X.A (eval (.Name x pos) X.env) Q E s:=
 Calls.Name_function_global I.ok.kind hg (Calls.loadGlobal_global (by rw[I.ok.glob];exact I.mod.glob.keeps I.bk) hm h) hd
theorem jT{E:Value→Shared→Prop}{s:Shared}{σ:St}{H:Hp}{u:Value}{pos:Pos}(I:Inv X pins σ H s)(hg:Gl X x)(hm:X.mg x=none)(hv:bootBuiltins x=some u)(h:Q u s)
  (hn:x≠"__name__":=by decide) (hd:(x == ("__debug__":Str))=false:=by decide):wpAny (model X.prog X.w) X.A (eval (.Name x pos) X.env) Q E s:=by
 obtain⟨mb,h1,h2⟩:=I.mod.blt
 exact Calls.Name_function_global I.ok.kind hg (Calls.loadGlobal_builtin (by rw[I.ok.glob];exact I.mod.glob.keeps I.bk) hm (by rw[I.ok.blt];exact h1.keeps I.bk) ((h2 x hn).trans hv) h) hd
theorem sV{u:Value} {pos:Pos} (hg:Gl X x) (hm:X.mg x=some u) (r:RelV v u) (hd:(x == ("__debug__":Str))=false:=by decide):PE X (.Name x pos) (tC v):=
 fun _ _ _ H _ I h=>fX I hg hm ⟨v,H,I,r,h⟩ hd
theorem zR{u:Value} {pos:Pos} (hg:Gl X x) (hm:X.mg x=none) (hv:bootBuiltins x=some u) (r:RelV v u) (hn:x≠"__name__":=by decide) (hd:(x == ("__debug__":Str))=false:=by decide):PE X (.Name x pos) (tC v):=
 fun _ _ _ H _ I h=>jT I hg hm hv ⟨v,H,I,r,h⟩ hn hd
variable {a b:Expr} {ta tb:TE} {pos:Pos}
theorem CS(b:Expr){op:CmpOp}(h:op≠ .In)(h2:op≠ .NotIn):behindInMarks op b=false:=by
 have e1:(op == CmpOp.In)=false:=by cases op <;> first |rfl |exact absurd rfl h
 have e2:(op == CmpOp.NotIn)=false:=by cases op <;> first |rfl |exact absurd rfl h2
 cases b <;> simp[behindInMarks,e1,e2]
variable {tA tB':TT} {eN:List Expr}
def Mt(t u:TT):TT:=fun σ H Q=>t σ H fun c H1=>if c=true then u σ H1 Q else Q false H1
def Ny(t u:TT):TT:=fun σ H Q=>t σ H fun c H1=>if c=true then Q true H1 else u σ H1 Q
def Mu(t:TT):TT:=fun σ H Q=>t σ H fun c H1=>Q (!c) H1
theorem FO(ha:PT X a tA):PW X (.BoolOp .And [a] pos) tA:=by
 intro wh pins s σ H Q I h
 refine isTrue_and (dw (ha pins s σ H Q I h) fun c s1 e=>?_)
 cases c with
 |true=>exact isTrue_and_nil e
 |false=>exact e
theorem Ir(ha:PT X a tA):PW X (.BoolOp .Or [a] pos) tA:=by
 intro wh pins s σ H Q I h
 refine isTrue_or (dw (ha pins s σ H Q I h) fun c s1 e=>?_)
 cases c with
 |false=>exact isTrue_or_nil e
 |true=>exact e
theorem Is(ha:PT X a tA)(hb:PW X (.BoolOp .And (b::eN) pos) tB'):PW X (.BoolOp .And (a::b::eN) pos) (Mt tA tB'):=by
 intro wh pins s σ H Q I h
 refine isTrue_and (dw (ha pins s σ H _ I h) fun c s1 ⟨H1,I1,q1⟩=>?_)
 cases c with
 |true=>exact hb wh pins s1 σ H1 Q I1 q1
 |false=>exact⟨H1,I1,q1⟩
theorem KH(ha:PT X a tA)(hb:PW X (.BoolOp .Or (b::eN) pos) tB'):PW X (.BoolOp .Or (a::b::eN) pos) (Ny tA tB'):=by
 intro wh pins s σ H Q I h
 refine isTrue_or (dw (ha pins s σ H _ I h) fun c s1 ⟨H1,I1,q1⟩=>?_)
 cases c with
 |true=>exact⟨H1,I1,q1⟩
 |false=>exact hb wh pins s1 σ H1 Q I1 q1
theorem Iu(ha:PT X a tA):PT X (.UnaryOp .Not a pos) (Mu tA):=by
 intro pins s σ H Q I h
 exact isTrue_not (ha pins s σ H (fun c H1=>Q (!c) H1) I h)
def KI(ta tb:TE):TE:=fun σ H Q=>ta σ H fun x H1=>∃c,x=.bl c∧if c=true then tb σ H1 Q else Q (.bl false) H1
theorem Iv{op}{t:TE}(h:PE X a t):PE X (.BoolOp op [a] pos) t:=fun pins s σ H Q I hw=>BoolOp_one (h pins s σ H Q I hw)
theorem Iw(ha:PE X a ta)(hb:PE X (.BoolOp .And (b::eN) pos) tb):PE X (.BoolOp .And (a::b::eN) pos) (KI ta tb):=by
 intro pins s σ H Q I h
 refine BoolOp_and (dw (ha pins s σ H _ I h) fun v s1 ⟨x,H1,I1,r1,q1⟩=>?_)
 obtain⟨c,rfl,q1⟩:=q1
 cases r1
 refine wpAny_truthy_bool ?_
 cases c with
 |true=>exact hb pins s1 σ H1 Q I1 q1
 |false=>exact⟨.bl false,H1,I1,rfl,q1⟩
end
end L2
namespace L2
open PySem PySem.Spec PyProof.Rows
def SqL(K:Frag)(H:Hp)(a:Addr)(xs:List V):Prop:=
 Rd H a (.lst xs)∨
  ∃(o:Obj) (its:Array Value) (n:Nat),K.lookup a=some o∧o.cls=.type "list"∧o.dict=none∧o.data=.seq its n∧its.size≤sizeLine∧Vals xs its.toList
def SqT(K:Frag)(H:Hp)(a:Addr)(xs:List V):Prop:=
 Rd H a (.tup xs)∨
  ∃(o:Obj) (its:Array Value) (n:Nat),K.lookup a=some o∧o.cls=.type "tuple"∧o.data=.seq its n∧its.size≤sizeLine∧Vals xs its.toList
def Mv:Value→Option V
 |.none=>some .non
 |.bool b=>some (.bl b)
 |.int i _=>some (.int i)
 |.str x _=>some (.str x)
 |.bytes b _=>some (.byt b)
 |.float b _=>some (.flt b)
 |.ref a=>some (.ref a)
 |.type n=>some (.ty n)
 |_=>none
theorem RelV.abs{x:V}{u:Value}(r:RelV x u):Mv u=some x:=by
 cases x with
 |non=>cases r;rfl
 |bl _=>cases r;rfl
 |int _=>obtain⟨t,rfl⟩:=r;rfl
 |str _=>obtain⟨t,rfl⟩:=r;rfl
 |byt _=>obtain⟨t,rfl⟩:=r;rfl
 |flt _=>obtain⟨t,rfl⟩:=r;rfl
 |ref _=>cases r;rfl
 |ty _=>cases r;rfl
theorem RelV.inj{x y:V}{u:Value}(r:RelV x u)(q:RelV y u):x=y:=Option.some.inj (r.abs.symm.trans q.abs)
theorem Vals.inj{ys:List V}(h:Vals xs us)(k:Vals ys us):xs=ys:=by
 induction h generalizing ys with
 |nil=>cases k;rfl
 |cons r _ ih=>cases k with |cons r' t'=>rw[r.inj r',ih t']
section
variable {X:Cx} {pins:List (Addr×Obj)} {σ:St} {H:Hp} {s:Shared} {a:Addr} {xs ys:List V}
theorem SqL.of{K:Frag}(h:H a=some (.lst xs)):SqL K H a xs:=.inl (.inl h)
theorem SqT.of{K:Frag}(h:H a=some (.tup xs)):SqT K H a xs:=.inl (.inl h)
theorem Inv.list(I:Inv X pins σ H s)(h:SqL X.K H a xs):∃its:List Value,Vals xs its∧PlainL s.heap a its.toArray∧xs.length≤sizeLine:=by
 rcases h with h |⟨o,its,n,hk,hc,hd,hs,hz,r⟩
 ·obtain⟨z,its,n,r,e⟩:=h.ok I.hok
  exact⟨its,r,⟨_,n,e,rfl,rfl,rfl⟩,z⟩
 ·refine⟨its.toList,r,⟨o,n,I.kIn a o hk,hc,hd,by simpa using hs⟩,?_⟩
  have e:=r.length
  simp only[xI]at e
  omega
theorem Inv.tuple(I:Inv X pins σ H s)(h:SqT X.K H a xs):∃its:List Value,Vals xs its∧IsTup s.heap a its.toArray∧xs.length≤sizeLine:=by
 rcases h with h |⟨o,its,n,hk,hc,hs,hz,r⟩
 ·obtain⟨z,its,r,p⟩:=h.ok I.hok
  exact⟨its,r,p,z⟩
 ·refine⟨its.toList,r,⟨o,I.kIn a o hk,hc,n,by simpa using hs⟩,?_⟩
  have e:=r.length
  simp only[xI]at e
  omega
theorem Inv.list_inj(I:Inv X pins σ H s)(h:SqL X.K H a xs)(h':SqL X.K H a ys):xs=ys:=by
 obtain⟨its,r,⟨o,n,e,_,_,d⟩,_⟩:=I.list h
 obtain⟨its',r',⟨o',n',e',_,_,d'⟩,_⟩:=I.list h'
 rw[e]at e';cases e'
 rw[d]at d'
 injection d' with d1 _
 have:its=its':=by simpa using congrArg Array.toList d1
 subst this
 exact r.inj r'
theorem Inv.tuple_inj(I:Inv X pins σ H s)(h:SqT X.K H a xs)(h':SqT X.K H a ys):xs=ys:=by
 obtain⟨its,r,⟨o,e,_,n,d⟩,_⟩:=I.tuple h
 obtain⟨its',r',⟨o',e',_,n',d'⟩,_⟩:=I.tuple h'
 rw[e]at e';cases e'
 rw[d]at d'
 injection d' with d1 _
 have:its=its':=by simpa using congrArg Array.toList d1
 subst this
 exact r.inj r'
end
abbrev Cx.wish(X:Cx)(E:Value→Shared→Prop):Cx:={X with xe:=E}
abbrev Cx.nox(X:Cx):Cx:=X.wish fun _ _=>False
theorem Cx.Ok.wish(ok:X.Ok)(E:Value→Shared→Prop):(X.wish E).Ok:=
 ⟨ok.mod,ok.kind,ok.glob,ok.blt,ok.above,ok.inj,ok.has,ok.cab,ok.hd,ok.frames,ok.stk,ok.exf,ok.bs,ok.bsz,ok.noex,ok.exfs,ok.funs,ok.frf,ok.tab⟩
theorem Cx.Ok.unwish{E:Value→Shared→Prop}(ok:(X.wish E).Ok):X.Ok:=
 ⟨ok.mod,ok.kind,ok.glob,ok.blt,ok.above,ok.inj,ok.has,ok.cab,ok.hd,ok.frames,ok.stk,ok.exf,ok.bs,ok.bsz,ok.noex,ok.exfs,ok.funs,ok.frf,ok.tab⟩
section
variable {X:Cx} {pins:List (Addr×Obj)} {σ:St} {H:Hp} {s:Shared} {E:Value→Shared→Prop}
theorem Inv.wish(I:Inv X pins σ H s)(E:Value→Shared→Prop):Inv (X.wish E) pins σ H s:=⟨I.ok.wish E,I.os,I.bare,I.base,I.loc,I.cell,I.free,I.freeC,I.pin,I.hok,I.len⟩
theorem Inv.unwish(I:Inv (X.wish E) pins σ H s):Inv X pins σ H s:=⟨I.ok.unwish,I.os,I.bare,I.base,I.loc,I.cell,I.free,I.freeC,I.pin,I.hok,I.len⟩
theorem SP.unwish{f:Flow}{s':Shared}(h:SP (X.wish E) pins D f s'):SP X pins D f s':=by
 cases f with
 |next=>obtain⟨σ',H',I,q⟩:=h;exact⟨σ',H',I.unwish,q⟩
 |brk=>obtain⟨σ',H',I,q⟩:=h;exact⟨σ',H',I.unwish,q⟩
 |cont=>obtain⟨σ',H',I,q⟩:=h;exact⟨σ',H',I.unwish,q⟩
 |ret u=>obtain⟨v,σ',H',I,r,q⟩:=h;exact⟨v,σ',H',I.unwish,r,q⟩
theorem PSs.nox{st:List Stmt}{t:TS}(h:PSs X.nox st t):PSs X st t:=fun pins s σ H D I hw=>
 zz2 (h pins s σ H D (I.wish _) hw) (fun _ _ q=>q.unwish) fun _ _ z=>False.elim z
end
section
variable {X:Cx} {st:Stmt} {eN:List Stmt} {t u:TS} {e:Expr} {te:TE} {pos:Pos}
def KJ:TS:=fun D σ H=>D.nx σ H
def Mw(t u:TS):TS:=fun D σ H=>t {D with nx:=u D} σ H
theorem FP:PSs X [] KJ:=fun _ _ σ H _ I h=>wpAny_execs_nil ⟨σ,H,I,h⟩
theorem CT(h1:PS X st t)(h2:PSs X eN u):PSs X (st::eN) (Mw t u):=by
 intro pins s σ H D I h
 refine wpAny_execs_cons (dw (h1 pins s σ H {D with nx:=u D} I h) fun f s1 q=>?_)
 cases f with
 |next=>
  obtain⟨σ',H',I',q⟩:=q
  exact h2 pins s1 σ' H' D I' q
 |ret v=>exact q
 |brk=>exact q
 |cont=>exact q
theorem FQ(h1:PS X st t):PSs X [st] t:=by
 intro pins s σ H D I h
 refine wpAny_execs_cons (dw (h1 pins s σ H D I h) fun f s1 q=>?_)
 cases f with
 |next=>exact wpAny_execs_nil q
 |ret v=>exact q
 |brk=>exact q
 |cont=>exact q
theorem Inv.quiet{σ:St}{H:Hp}{s:Shared}(I:Inv X pins σ H s):interactive X.env=false:=by simp[interactive,I.ok.kind]
def KK(te:TE):TS:=fun D σ H=>te σ H fun _ H1=>D.nx σ H1
theorem zS(he:PE X e te)(hs:swapsWith e none pos.line X.env=pure false:=by rfl):PS X (.Expr e pos) (KK te):=by
 intro pins s σ H D I h
 exact wpAny_Expr_any (dw (he pins s σ H _ I h) fun v s1 ⟨x,H1,I1,r1,q1⟩=>⟨σ,H1,I1,q1⟩) I.quiet hs
def Mx(te:TE):TS:=fun D σ H=>te σ H D.rt
theorem Ix(he:PE X e te):PS X (.Return (some e) pos) (Mx te):=by
 intro pins s σ H D I h
 exact wpAny_Return_some (dw (he pins s σ H _ I h) fun v s1 ⟨x,H1,I1,r1,q1⟩=>⟨x,σ,H1,I1,r1,q1⟩)
def My(c:TT)(t u:TS):TS:=fun D σ H=>c σ H fun b H1=>if b=true then t D σ H1 else u D σ H1
theorem KL{c:Expr}{a b:List Stmt}{tc:TT}(hc:PT X c tc)(ha:PSs X a t)(hb:PSs X b u):PS X (.If c a b pos) (My tc t u):=by
 intro pins s σ H D I h
 refine wpAny_If (dw (hc pins s σ H _ I h) fun d s1 ⟨H1,I1,q1⟩=>?_)
 cases d with
 |true=>exact ha pins s1 σ H1 D I1 q1
 |false=>exact hb pins s1 σ H1 D I1 q1
def Iy:TS:=fun _ _ _=>False
theorem CU:PS X st Iy:=fun _ _ _ _ _ _ h=>h.elim
end
abbrev TG:=V→St→Hp→(St→Hp→Prop)→Prop
abbrev FR:=List V→St→Hp→(St→Hp→Prop)→Prop
def PG(X:Cx)(target:Expr)(t:TG):Prop:=
 ∀(pins:List (Addr×Obj)) (s:Shared) (σ:St) (H:Hp) (v:V) (u:Value) (Q:St→Hp→Prop),Inv X pins σ H s→RelV v u→t v σ H Q→
  wpAny (model X.prog X.w) X.A (assign target X.env u) (fun _ s'=>∃σ' H',Inv X pins σ' H' s'∧Q σ' H') X.xe s
def Iz(X:Cx)(ts:List Expr)(t:FR):Prop:=
 ∀(pins:List (Addr×Obj)) (s:Shared) (σ:St) (H:Hp) (vs:List V) (us:List Value) (Q:St→Hp→Prop),Inv X pins σ H s→Vals vs us→t vs σ H Q→
  wpAny (model X.prog X.w) X.A (assignInOrder ((assignEach ts X.env).map (·.2)) us) (fun _ s'=>∃σ' H',Inv X pins σ' H' s'∧Q σ' H') X.xe s
section
variable {X:Cx} {pos:Pos}
def CV(i:Nat):TG:=fun v σ H Q=>Q (σ.set i (some v)) H
theorem zT{i:Nat}(hN:X.N.Nodup)(hi:X.N[i]? =some x)(hx:Io X.env.scope x)(hf:X.fn x=true∨X.env.scope.names.lookup x=some .local:=by first |exact .inl rfl |exact .inr rfl |assumption):PG X (.Name x pos) (CV i):=by
 intro pins s σ H v u Q I r h
 exact wpAny_assign_Name (pE I hN hi hx r (fun s' I'=>⟨_,H,I',h⟩) hf)
def Mz:FR:=fun vs σ H Q=>vs=[]∧Q σ H
def KM(t:TG)(u:FR):FR:=fun vs σ H Q=>∃v r,vs=v::r∧t v σ H fun σ' H'=>u r σ' H' Q
theorem FS:Iz X [] Mz:=by
 intro pins s σ H vs us Q I r h
 obtain⟨e,h⟩:=h
 subst e
 cases r
 exact assignInOrder_nil ⟨σ,H,I,h⟩
theorem CW{es:List Expr}{t:TG}{u:FR}(h1:PG X e t)(h2:Iz X es u)
  (hs:(assignEach (e::es) X.env).map (·.2)=assign e X.env::(assignEach es X.env).map (·.2):=by rfl):Iz X (e::es) (KM t u):=by
 intro pins s σ H vs us Q I r h
 obtain⟨v,vr,e1,h⟩:=h
 subst e1
 cases r with
 |cons r rr=>
  rw[hs]
  refine assignInOrder_cons (dw (h1 pins s σ H _ _ _ I r h) fun _ s1 ⟨σ1,H1,I1,q1⟩=>?_)
  exact h2 pins s1 σ1 H1 _ _ Q I1 rr q1
def MA(K:Frag)(n:Nat)(t:FR):TG:=fun v σ H Q=>∃a xs,v=.ref a∧SqT K H a xs∧xs.length=n∧t xs σ H Q
theorem IB{es:List Expr}{t:FR}(hc:X.calm=true)(h:Iz X es t)
  (hn:(assignEach es X.env).length=n:=by rfl) (hst:(assignEach es X.env).findIdx? (·.1)=none:=by rfl):PG X (.Tuple es k pos) (MA X.K n t):=by
 intro pins s σ H v u Q I r hw
 obtain⟨a,xs,e1,hq,hl,hw⟩:=hw
 subst e1
 cases r
 obtain⟨its,rv,ht,hz⟩:=I.tuple hq
 refine assign_Tuple_tuple (I.ok.hd hc) ht (by simp[hn,←hl,rv.length]) hst fun h' hx=>?_
 have I1:Inv X pins σ H {s with heap:=h'}:=I.kept (t':=s.toks) fun b o e=>hx b o (gS (fP e)) e
 exact h pins _ σ H xs _ Q I1 (by simpa using rv) hw
def KN(te:TE)(g:TG):TS:=fun D σ H=>te σ H fun x H1=>g x σ H1 D.nx
theorem IC{i:Nat}{te:TE}(hN:X.N.Nodup)(hi:X.N[i]? =some x)(hx:Io X.env.scope x)(he:PE X e te)(hs:swapsWith e (some (.Name x pos')) pos.line X.env=pure false:=by rfl)(hf:X.fn x=true∨X.env.scope.names.lookup x=some .local:=by first |exact .inl rfl |exact .inr rfl |assumption):
  PS X (.Assign [.Name x pos'] e pos) (KN te (CV i)):=by
 intro pins s σ H D I h
 refine wpAny_Assign_Name (dw (he pins s σ H _ I h) fun v s1 ⟨y,H1,I1,r1,q1⟩=>?_) hs
 exact pE I1 hN hi hx r1 (fun s2 I2=>⟨_,H1,I2,q1⟩) hf
end
structure It where
 go:Nat→Hp→Prop
 yld:Nat→Hp→V→Hp→Prop
 stop:Nat→Hp→Prop
def oS(X:Cx)(pins:List (Addr×Obj))(H:Hp)(b:Addr):Prop:=
 H b=none∧b≠X.env.locals∧b∉X.fs∧(b∈X.ex∨X.s₀.heap.objs.size≤b)∧(∀x c,X.env.cells.lookup x=some c→c≠b)∧∀p∈X.pn++pins,p.1≠b
theorem Inv.fpOk{σ:St}{H:Hp}{s:Shared}{b:Addr}(I:Inv X pins σ H s)(hb:s.heap.objs.size≤b)(hn:H' b=none):oS X pins H' b:=by
 refine⟨hn,Nat.ne_of_gt (ma I.lt hb),I.nofs hb,.inr (jP I.sz hb),fun x c e z=>?_,fun p hp z=>?_⟩
 ·obtain⟨v,q⟩:=I.cell x c e
  exact absurd (ma q.lt (by rw[z];exact hb)) (Nat.lt_irrefl _)
 ·exact absurd (ma (fP (I.pin p hp).1) (by rw[z];exact hb)) (Nat.lt_irrefl _)
structure Turn (P:Program) (w:World) (K:Frag) (tg:Expr) (J:It) (fp:List Addr) (it:Addr) (tn:Nat→Heap→Prop):Prop where
 mem:it∈fp
 obj:∀i h,tn i h→∀b∈fp,∃o,h.get? b=some o∧∀v,o.data≠ .cell v
 keep:∀i h h',tn i h→(∀b∈fp,∀o,h.get? b=some o→h'.get? b=some o)→tn i h'
 item:∀(X:Cx),X.prog=P→X.w=w→X.K=K→X.calm=true→∀(i:Nat) (pins:List (Addr×Obj)) (s:Shared) (σ:St) (H:Hp) (E:Value→Shared→Prop),Inv X pins σ H s→(∀b∈fp,oS X pins H b)→tn i s.heap→J.go i H→
  wpAny (model P w) X.A (pyNext (.ref it)) (fun r s1=>∃u,r=some u∧
   wpAny (model P w) X.A (letOwnedTupleGo tg (.ref it) u) (fun _ s2=>∃x H',Inv X pins σ H' s2∧RelV x u∧J.yld i H x H'∧tn (i+1) s2.heap∧∀b∈fp,H' b=none) E s1) E s
 done:∀(X:Cx),X.prog=P→X.w=w→X.K=K→X.calm=true→∀(i:Nat) (pins:List (Addr×Obj)) (s:Shared) (σ:St) (H:Hp) (E:Value→Shared→Prop),Inv X pins σ H s→(∀b∈fp,oS X pins H b)→tn i s.heap→J.stop i H→
  wpAny (model P w) X.A (pyNext (.ref it)) (fun r s1=>r=none∧Inv X pins σ H s1) E s
 self:∀(A:Around) (i:Nat) (s:Shared) (Q:Value→Shared→Prop) (E:Value→Shared→Prop),tn i s.heap→Q (.ref it) s→wpAny (model P w) A (pyIter (.ref it)) Q E s
abbrev TI:=St→Hp→(It→Hp→Prop)→Prop
def Nm(X:Cx)(pins:List (Addr×Obj))(σ:St)(tg:Expr)(R:It→Hp→Prop)(itv:Value)(s2:Shared):Prop:=
 ∃(it:Addr) (fp:List Addr) (tn:Nat→Heap→Prop) (J:It) (H':Hp),itv=.ref it∧Inv X pins σ H' s2∧Turn X.prog X.w X.K tg J fp it tn∧tn 0 s2.heap∧(∀b∈fp,oS X pins H' b)∧R J H'
def PI(X:Cx)(tg iter:Expr)(wi:TI):Prop:=
 ∀(pins:List (Addr×Obj)) (s:Shared) (σ:St) (H:Hp) (R:It→Hp→Prop),Inv X pins σ H s→wi σ H R→
  wpAny (model X.prog X.w) X.A (eval iter X.env) (fun v s1=>wpAny (model X.prog X.w) X.A (pyIter v) (Nm X pins σ tg R) X.xe s1) X.xe s
theorem zU{M:Model}{A:Around}{E:Value→Shared→Prop}{s:Shared}{tg:Expr}{it:Addr}{u:Value}{n:String}{vs:Array Value}{Q:Unit→Shared→Prop}(ho:s.heap.get? it=some o)(hc:o.cls=.type n)(hd:o.data=.fields vs)
  (hn:["enumerate","zip","dict_itemiterator","dict_reverseitemiterator","odict_iterator","itertools.zip_longest","itertools.pairwise"].contains n=false) (hQ:Q () s):wpAny M A (letOwnedTupleGo tg (.ref it) u) Q E s:=by
 unfold letOwnedTupleGo
 cases tg <;> first
  |exact zz1 hQ
  |(cases u <;> first
    |exact zz1 hQ
    |(refine zz0 (wpAny_load ho ?_)
      rw[hc,hd]
      show wpAny M A (if (["enumerate","zip","dict_itemiterator","dict_reverseitemiterator","odict_iterator","itertools.zip_longest","itertools.pairwise"].contains n&&vs[0]? == some (rawInt _))=true then _ else _) Q E s
      rw[if_neg (by intro h;rw[hn,Bool.false_and]at h;cases h)]
      exact zz1 hQ))
def MB(K:Frag)(a:Addr):It:=
 ⟨fun i H=>∃xs x,SqL K H a xs∧xs[i]? =some x,fun i H x H'=>H'=H∧∀xs,SqL K H a xs→xs[i]? =some x,fun i H=>∃xs,SqL K H a xs∧xs.length≤i⟩
def MC(K:Frag)(a:Addr):It:=
 ⟨fun i H=>∃xs x,SqT K H a xs∧xs[i]? =some x,fun i H x H'=>H'=H∧∀xs,SqT K H a xs→xs[i]? =some x,fun i H=>∃xs,SqT K H a xs∧xs.length≤i⟩
def KO(lo:Int)(n:Nat):It:=⟨fun i _=>i < n,fun i H x H'=>H'=H∧x=.int (lo+i),fun i _=>n≤i⟩
theorem Bo{w:World}{K:Frag}{tg:Expr}(a it:Addr):Turn P w K tg (MB K a) [it] it (fun i h=>h.IsListIter it a i) where
 mem:=by simp
 obj:=fun i h st b hb=>by
  have e:b=it:=by simpa using hb
  subst e
  obtain⟨o,e,c,d⟩:=st
  exact⟨o,e,fun v z=>by rw[d]at z;cases z⟩
 keep:=fun i h h' st k=>st.at fun o e=>k it (by simp) o e
 item:=by
  intro X hP hw hK hc i pins s σ H E I hf st hg
  subst hP hw hK
  obtain⟨xs,x,hq,hx⟩:=hg
  obtain⟨its,rv,p,hz⟩:=I.list hq
  obtain⟨u,hu,ru⟩:=rv.get hx
  obtain⟨f0,f1,f2,f3,f4,f5⟩:=hf it (by simp)
  refine wpAny_pyNext_list_item st p.isList (x:=u) (by simpa using hu) fun h' st' sb=>?_
  have I1:Inv X pins σ H {s with heap:=h'}:=I.turned (t':=s.toks) (fun b o hb e=>(sb.2 b hb).trans e) f0 f1 f3 f4 f5
  obtain⟨o,e,c,d⟩:=id st'
  exact⟨u,rfl,zU (s:={s with heap:=h'}) e c d (by decide) ⟨x,H,I1,ru,⟨rfl,fun ys hy=>by rw[I.list_inj hy hq];exact hx⟩,st',fun b hb=>(hf b hb).1⟩⟩
 done:=by
  intro X hP hw hK hc i pins s σ H E I hf st hg
  subst hP hw hK
  obtain⟨xs,hq,hx⟩:=hg
  obtain⟨its,rv,p,hz⟩:=I.list hq
  obtain⟨f0,f1,f2,f3,f4,f5⟩:=hf it (by simp)
  have hl:=rv.length
  exact wpAny_pyNext_list_end (I.ok.hd hc) st p.isList (by simp;omega) fun h' eb=>⟨rfl,I.turned (t':=s.toks) (fun b o hb e=>eb b o hb e) f0 f1 f3 f4 f5⟩
 self:=fun _ _ _ _ _ st h=>wpAny_pyIter_listiter st h
theorem xQ{w:World}{K:Frag}{tg:Expr}(a it:Addr):Turn P w K tg (MC K a) [it] it (fun i h=>h.IsTupleIter it a i) where
 mem:=by simp
 obj:=fun i h st b hb=>by
  have e:b=it:=by simpa using hb
  subst e
  obtain⟨o,e,c,d⟩:=st
  exact⟨o,e,fun v z=>by rw[d]at z;cases z⟩
 keep:=fun i h h' st k=>st.at fun o e=>k it (by simp) o e
 item:=by
  intro X hP hw hK hc i pins s σ H E I hf st hg
  subst hP hw hK
  obtain⟨xs,x,hq,hx⟩:=hg
  obtain⟨its,rv,p,hz⟩:=I.tuple hq
  obtain⟨u,hu,ru⟩:=rv.get hx
  obtain⟨f0,f1,f2,f3,f4,f5⟩:=hf it (by simp)
  refine wpAny_pyNext_tuple_item st (show s.heap.IsTuple a its.toArray from p) (x:=u) (by simpa using hu) fun h' st' sb=>?_
  have I1:Inv X pins σ H {s with heap:=h'}:=I.turned (t':=s.toks) (fun b o hb e=>(sb.2 b hb).trans e) f0 f1 f3 f4 f5
  obtain⟨o,e,c,d⟩:=id st'
  exact⟨u,rfl,zU (s:={s with heap:=h'}) e c d (by decide) ⟨x,H,I1,ru,⟨rfl,fun ys hy=>by rw[I.tuple_inj hy hq];exact hx⟩,st',fun b hb=>(hf b hb).1⟩⟩
 done:=by
  intro X hP hw hK hc i pins s σ H E I hf st hg
  subst hP hw hK
  obtain⟨xs,hq,hx⟩:=hg
  obtain⟨its,rv,p,hz⟩:=I.tuple hq
  obtain⟨f0,f1,f2,f3,f4,f5⟩:=hf it (by simp)
  have hl:=rv.length
  exact wpAny_pyNext_tuple_end (I.ok.hd hc) st (show s.heap.IsTuple a its.toArray from p) (by simp;omega) fun h' eb=>⟨rfl,I.turned (t':=s.toks) (fun b o hb e=>eb b o hb e) f0 f1 f3 f4 f5⟩
 self:=fun _ _ _ _ _ st h=>wpAny_pyIter_tupleiter st h
theorem xR{w:World}{K:Frag}{tg:Expr}(it:Addr)(lo:Int)(n:Nat):Turn P w K tg (KO lo n) [it] it (fun i h=>IsRangeIter h it (lo+(i:Nat)*1) ((n:Int) - (i:Nat)) 1) where
 mem:=by simp
 obj:=fun i h st b hb=>by
  have e:b=it:=by simpa using hb
  subst e
  exact⟨_,st,fun v z=>by
   have z':Data.fields _=Data.cell v:=z
   cases z'⟩
 keep:=fun i h h' st k=>k it (by simp) _ st
 item:=by
  intro X hP hw hK hc i pins s σ H E I hf st hg
  subst hP hw hK
  obtain⟨f0,f1,f2,f3,f4,f5⟩:=hf it (by simp)
  have W:=Walks.range (prog:=X.prog) (w:=X.w) (I.ok.hd hc) it lo 1 n
  refine W.item i s _ _ hg st fun v h' tk hv st' kk=>?_
  obtain⟨t,rfl⟩:=hv
  have I1:Inv X pins σ H {s with heap:=h',toks:=tk}:=I.turned (fun b o hb e=>kk b o (by simpa using hb) e) f0 f1 f3 f4 f5
  refine⟨_,rfl,zU (s:={s with heap:=h',toks:=tk}) (n:="range_iterator") st' rfl rfl (by decide) ⟨.int (lo+i),H,I1,⟨t,?_⟩,⟨rfl,rfl⟩,st',fun b hb=>(hf b hb).1⟩⟩
  rw[Int.mul_one]
 done:=by
  intro X hP hw hK hc i pins s σ H E I hf st hg
  subst hP hw hK
  obtain⟨f0,f1,f2,f3,f4,f5⟩:=hf it (by simp)
  exact wpAny_pyNext_range_end (I.ok.hd hc) st (by have:n≤i:=hg;omega) fun h' eb=>⟨rfl,I.turned (t':=s.toks) (fun b o hb e=>eb b o hb e) f0 f1 f3 f4 f5⟩
 self:=fun _ _ _ _ _ st h=>wpAny_pyIter_rangeiter st h
end L2
namespace L2
open PySem PySem.Spec PyProof.Rows
section
variable {X:Cx} {tg:Expr}
def KP(K:Frag)(tl:TE):TI:=fun σ H R=>tl σ H fun x H1=>∃a,x=.ref a∧(∃xs,SqL K H1 a xs)∧R (MB K a) H1
def MD(K:Frag)(tl:TE):TI:=fun σ H R=>tl σ H fun x H1=>∃a,x=.ref a∧(∃xs,SqT K H1 a xs)∧R (MC K a) H1
theorem FT{l:Expr}{tl:TE}(hl:PE X l tl):PI X tg l (KP X.K tl):=by
 intro pins s σ H R I h
 refine dw (hl pins s σ H _ I h) fun v s1 ⟨x,H1,I1,r1,q1⟩=>?_
 obtain⟨a,e,⟨xs,hq⟩,q⟩:=q1
 subst e
 cases r1
 obtain⟨its,rv,p,hz⟩:=I1.list hq
 refine wpAny_pyIter_list p.isList ?_
 refine⟨s1.heap.objs.size,[s1.heap.objs.size],_,_,H1,rfl,I1.kept (t':=s1.toks) fun b o e=>gD _ e,Bo a _,⟨_,mf _ rfl,rfl,rfl⟩,fun b hb=>?_,q⟩
 have e:b=s1.heap.objs.size:=by simpa using hb
 subst e
 exact I1.fpOk (fz _) (I1.hok.fresh (fz _))
theorem ID{l:Expr}{tl:TE}(hl:PE X l tl):PI X tg l (MD X.K tl):=by
 intro pins s σ H R I h
 refine dw (hl pins s σ H _ I h) fun v s1 ⟨x,H1,I1,r1,q1⟩=>?_
 obtain⟨a,e,⟨xs,hq⟩,q⟩:=q1
 subst e
 cases r1
 obtain⟨its,rv,p,hz⟩:=I1.tuple hq
 refine wpAny_pyIter_tuple (show s1.heap.IsTuple a its.toArray from p) ?_
 refine⟨s1.heap.objs.size,[s1.heap.objs.size],_,_,H1,rfl,I1.kept (t':=s1.toks) fun b o e=>gD _ e,xQ a _,⟨_,mf _ rfl,rfl,rfl⟩,fun b hb=>?_,q⟩
 have e:b=s1.heap.objs.size:=by simpa using hb
 subst e
 exact I1.fpOk (fz _) (I1.hok.fresh (fz _))
theorem vJ{σ:St}{H:Hp}{s:Shared}{R:It→Hp→Prop}{E:Value→Shared→Prop}{lo hi:Int}{t u v:Tok}{tk:Nat}(I:Inv X pins σ H s)(h1: -(2 ^ 62)≤lo)(h2:lo < 2 ^ 62)(h3: -(2 ^ 62)≤hi)(h4:hi < 2 ^ 62)
  (q:R (KO lo (hi - lo).toNat) H):wpAny (model X.prog X.w) X.A (pyIter (.ref s.heap.objs.size)) (Nm X pins σ tg R) E {s with heap:=s.heap.push {cls:=.type "range",data:=.fields #[.int lo t,.int hi u,.int 1 v]},toks:=tk}:=by
 refine wpAny_pyIter_range (IsRange.new ..) (small_one h1 h2 h3 h4) ?_
 have I1:Inv X pins σ H {s with heap:=s.heap.push {cls:=.type "range",data:=.fields #[.int lo t,.int hi u,.int 1 v]},toks:=tk}:=I.kept fun b o e=>gD _ e
 refine⟨(s.heap.push {cls:=.type "range",data:=.fields #[.int lo t,.int hi u,.int 1 v]}).objs.size,[(s.heap.push {cls:=.type "range",data:=.fields #[.int lo t,.int hi u,.int 1 v]}).objs.size],_,_,H,rfl,
  I1.kept (t':=tk) fun b o e=>gD _ e,xR _ lo (hi - lo).toNat,?_,fun b hb=>?_,q⟩
 ·have e1:lo+((0:Nat):Int)*1=lo:=by simp
  have e2:(((hi - lo).toNat:Nat):Int) - ((0:Nat):Int)=Builtin.Range.rangeSize lo hi 1:=by rw[rangeSize_one];split <;> omega
  show IsRangeIter _ _ (lo+((0:Nat):Int)*1) ((((hi - lo).toNat:Nat):Int) - ((0:Nat):Int)) 1
  rw[e1,e2]
  exact mf _ rfl
 ·have e:b=(s.heap.push {cls:=.type "range",data:=.fields #[.int lo t,.int hi u,.int 1 v]}).objs.size:=by simpa using hb
  subst e
  exact I1.fpOk (fz _) (I1.hok.fresh (fz _))
def KQ(ta:TA):TI:=fun σ H R=>ta σ H fun vs H1=>∃j:Int,vs=[.int j]∧ -(2 ^ 62)≤j∧j < 2 ^ 62∧R (KO 0 j.toNat) H1
def KR(ta:TA):TI:=fun σ H R=>ta σ H fun vs H1=>∃i j:Int,vs=[.int i,.int j]∧(-(2 ^ 62)≤i∧i < 2 ^ 62∧ -(2 ^ 62)≤j∧j < 2 ^ 62)∧R (KO i (j - i).toNat) H1
theorem Bp{a:Expr} {ta:TA} {pos:Pos} (hg:Gl X "range") (hm:X.mg "range"=none) (ha:PA X [a] ta) (hs:starEach [a] X.env=[(false,eval a X.env)]:=by rfl):PI X tg (.Call (.Name "range" p) [a] [] pos) (KQ ta):=by
 intro pins s σ H R I h
 refine Call_ (jT I hg hm boot_range (PyProof.Rows.callWith_type1 (dw (ha pos pins s σ H _ I h) fun us s1 ⟨vs,H1,I1,r1,q1⟩=>?_) hs rfl))
 obtain⟨j,e,q1,q2,q⟩:=q1
 subst e
 cases r1 with
 |cons r rr=>
  cases rr
  obtain⟨t,rfl⟩:=r
  exact call_range_1 (vJ I1 (by omega) (by omega) q1 q2 (by simpa using q))
theorem Bq{a b:Expr} {ta:TA} {pos:Pos} (hg:Gl X "range") (hm:X.mg "range"=none) (ha:PA X [a,b] ta) (hs:starEach [a,b] X.env=[(false,eval a X.env),(false,eval b X.env)]:=by rfl) (hs2:starEach [b] X.env=[(false,eval b X.env)]:=by rfl):
  PI X tg (.Call (.Name "range" p) [a,b] [] pos) (KR ta):=by
 intro pins s σ H R I h
 refine Call_ (jT I hg hm boot_range (PyProof.Rows.callWith_type1 (dw (ha pos pins s σ H _ I h) fun us s1 ⟨vs,H1,I1,r1,q1⟩=>?_) (by rw[hs,hs2]) (by rw[hs2];rfl)))
 obtain⟨i,j,e,⟨q1,q2,q3,q4⟩,q⟩:=q1
 subst e
 cases r1 with
 |cons r rr=>
  cases rr with
  |cons r' rr=>
   cases rr
   obtain⟨t,rfl⟩:=r
   obtain⟨t',rfl⟩:=r'
   exact call_range_2 (vJ I1 q1 q2 q3 q4 q)
def ME(wi:TI)(g:TG)(tb:TS):TS:=fun D σ H=>wi σ H fun J H1=>∃W:Nat→Nat→St→Hp→Prop,(∃m,W 0 m σ H1)∧∀i m σ H,W i m σ H→
 (J.stop i H∧D.nx σ H)∨(J.go i H∧∃N:St→Hp→Prop,(∀σ' H',N σ' H'→∃m',m' < m∧W (i+1) m' σ' H')∧∀x H',J.yld i H x H'→g x σ H' fun σ2 H2=>tb {D with nx:=N,ct:=N,bk:=D.nx} σ2 H2)
def m_(fp:List Addr)(h:Heap):List (Addr×Obj):=fp.filterMap fun b=>(h.get? b).map fun o=>(b,o)
theorem fQ{b:Addr}(hb:b∈fp)(e:h.get? b=some o):(b,o)∈m_ fp h:=List.mem_filterMap.mpr ⟨b,hb,by rw[e];rfl⟩
theorem Br{p:Addr×Obj}(hp:p∈m_ fp h):p.1∈fp∧h.get? p.1=some p.2:=by
 obtain⟨b,hb,e⟩:=List.mem_filterMap.mp hp
 cases q:h.get? b with
 |none=>rw[q]at e;cases e
 |some o=>
  rw[q]at e
  have e':(b,o)=p:=Option.some.inj e
  subst e'
  exact⟨hb,q⟩
theorem Inv.pinned{σ:St}{H:Hp}{s:Shared}(I:Inv X pins σ H s)(hf:∀b∈fp,oS X pins H b)(ho:∀b∈fp,∃o,s.heap.get? b=some o∧∀v,o.data≠ .cell v):Inv X (pins++m_ fp s.heap) σ H s:=
 I.pins_of fun p hp=>(Zah.mp hp).elim (fun z=>I.pin p (m9 _ z)) fun z=>by
  obtain⟨hb,e⟩:=Br z
  obtain⟨f0,f1,f2,_⟩:=hf p.1 hb
  obtain⟨o,e',d⟩:=ho p.1 hb
  rw[e]at e';cases e'
  exact⟨e,f0,f1,f2,d⟩
theorem Inv.unpinned{pl:List (Addr×Obj)}{σ:St}{H:Hp}{s:Shared}(I:Inv X (pins++pl) σ H s):Inv X pins σ H s:=I.pins_of fun p hp=>I.pin p (m9 _ (List.mem_append_left _ hp))
theorem CY{wi:TI}{g:TG}{tb:TS}{pos:Pos}(hp:PassesOwn (model X.prog X.w) X.A X.env X.xe)(hc:X.calm=true)(hi:PI X tg iter wi)(hg:PG X tg g)(hb:PSs X body tb)
  (hs:∀x,foldedSetIterable iter X.env x=pure x:=by intro _;rfl):PS X (.For tg iter body [] pos) (ME wi g tb):=by
 intro pins s σ H D I h
 refine wpAny_For (dw (hi pins s σ H _ I h) fun v s1 h1=>dw h1 fun itv s2 h2=>?_) hs
 obtain⟨it,fp,tn,J,H2,e,I2,T,st2,f2,W,⟨m0,w0⟩,turn⟩:=h2
 subst e
 -- what stays true of the iterator's objects through the loop
 have stat:∀{H':Hp},(∀b∈fp,H' b=none)→∀b∈fp,oS X pins H' b:=fun hn b hb=>⟨hn b hb,(f2 b hb).2⟩
 refine codeAny_forLoop_any (fun n s'=>∃i σ' H',Inv X pins σ' H' s'∧tn i s'.heap∧(∀b∈fp,H' b=none)∧W i n σ' H') ?_ m0 ⟨0,σ,H2,I2,st2,fun b hb=>(f2 b hb).1,w0⟩
 rintro n s3 ⟨i,σ3,H3,I3,st3,fr3,w3⟩
 rcases turn i n σ3 H3 w3 with⟨stop,qn⟩ |⟨go,N,hN,step⟩
 ·refine wpAny_passesOwn hp (dw (T.done X rfl rfl rfl hc i pins s3 σ3 H3 X.xe I3 (stat fr3) st3 stop) fun r s4 ⟨hr,I4⟩=>?_)
  subst hr
  exact wpAny_execs_nil ⟨σ3,H3,I4,qn⟩
 ·refine wpAny_passesOwn hp (dw (T.item X rfl rfl rfl hc i pins s3 σ3 H3 X.xe I3 (stat fr3) st3 go) fun r s4 ⟨u,hr,h4⟩=>?_)
  subst hr
  refine wpAny_passesOwn hp (dw h4 fun _ s5 ⟨x,H5,I5,r5,y5,st5,fr5⟩=>?_)
  have I5':=I5.pinned (stat fr5) (T.obj _ _ st5)
  refine wpAny_passesOwn hp (dw (hg _ s5 σ3 H5 x u _ I5' r5 (step x H5 y5)) fun _ s6 ⟨σ6,H6,I6,q6⟩=>?_)
  refine wpAny_passesOwn hp (dw (hb _ s6 σ6 H6 _ I6 q6) fun f s7 q7=>?_)
  have again:∀{σ7:St} {H7:Hp},Inv X (pins++m_ fp s5.heap) σ7 H7 s7→N σ7 H7→∃m,m < n∧∃i σ' H',Inv X pins σ' H' s7∧tn i s7.heap∧(∀b∈fp,H' b=none)∧W i m σ' H':=fun {σ7 H7} I7 n7=>by
   obtain⟨m',hm,w7⟩:=hN σ7 H7 n7
   refine⟨m',hm,i+1,σ7,H7,I7.unpinned,T.keep _ _ _ st5 fun b hb o e=>(I7.pin (b,o) (m9 _ (m9 _ (fQ hb e)))).1,fun b hb=>?_,w7⟩
   obtain⟨o,e,d⟩:=T.obj _ _ st5 b hb
   exact(I7.pin (b,o) (m9 _ (m9 _ (fQ hb e)))).2.1
  cases f with
  |next=>obtain⟨σ7,H7,I7,n7⟩:=q7;exact again I7 n7
  |cont=>obtain⟨σ7,H7,I7,n7⟩:=q7;exact again I7 n7
  |brk=>obtain⟨σ7,H7,I7,q7⟩:=q7;exact⟨σ7,H7,I7.unpinned,q7⟩
  |ret v=>obtain⟨x7,σ7,H7,I7,r7,q7⟩:=q7;exact⟨x7,σ7,H7,I7.unpinned,r7,q7⟩
end
end L2
namespace L2
open PySem PySem.Spec PyProof.Rows
abbrev R2:=V→V→Hp→VK→Prop
def OpR(X:Cx)(f:Value→Value→Sem Value)(r:R2):Prop:=
 ∀(pins:List (Addr×Obj)) (s:Shared) (σ:St) (H:Hp) (x y:V) (v u:Value) (Q:VK),Inv X pins σ H s→RelV x v→RelV y u→r x y H Q→
  wpAny (model X.prog X.w) X.A (f v u) (EP X pins σ Q) X.xe s
def MF(X:Cx)(f:Value→Sem Value)(r:V→Hp→VK→Prop):Prop:=
 ∀(pins:List (Addr×Obj)) (s:Shared) (σ:St) (H:Hp) (x:V) (v:Value) (Q:VK),Inv X pins σ H s→RelV x v→r x H Q→
  wpAny (model X.prog X.w) X.A (f v) (EP X pins σ Q) X.xe s
def CallR(X:Cx)(f:Value)(r:List V→Hp→VK→Prop):Prop:=
 ∀(pins:List (Addr×Obj)) (s:Shared) (σ:St) (H:Hp) (xs:List V) (us:List Value) (Q:VK),Inv X pins σ H s→Vals xs us→r xs H Q→
  wpAny (model X.prog X.w) X.A (call f us) (EP X pins σ Q) X.xe s
def MG(X:Cx)(r:V→Hp→(Bool→Hp→Prop)→Prop):Prop:=
 ∀(pins:List (Addr×Obj)) (s:Shared) (σ:St) (H:Hp) (x:V) (v:Value) (Q:Bool→Hp→Prop),Inv X pins σ H s→RelV x v→r x H Q→
  wpAny (model X.prog X.w) X.A (truthy v) (TP X pins σ Q) X.xe s
def KS(r:R2)(ta tb:TE):TE:=fun σ H Q=>ta σ H fun x H1=>tb σ H1 fun y H2=>r x y H2 Q
def Nz(r:V→Hp→VK→Prop)(ta:TE):TE:=fun σ H Q=>ta σ H fun x H1=>r x H1 Q
def rI(C:Int→Int→Prop)(g:Int→Int→V):R2:=fun x y H Q=>∃i j,x=.int i∧y=.int j∧C i j∧Q (g i j) H
def FU(g:Int→Int→V):R2:=fun x y H Q=>∃i j,x=.int i∧y=.int j∧Q (g i j) H
def rU(g:Int→V):V→Hp→VK→Prop:=fun x H Q=>∃i,x=.int i∧Q (g i) H
section
variable {X:Cx} {a b c:Expr} {ta tb tc:TE} {pos:Pos}
theorem IE(ha:PE X a ta)(hb:PE X b tb){s:Shared}{σ:St}{H:Hp}{R:V→V→Hp→Prop}(I:Inv X pins σ H s)
  (h:ta σ H fun x H1=>tb σ H1 fun y H2=>R x y H2)  {f:Value→Value→Sem Value}
  (hf:∀v u s2 x y H2,Inv X pins σ H2 s2→RelV x v→RelV y u→R x y H2→wpAny (model X.prog X.w) X.A (f v u) Q X.xe s2):
  wpAny (model X.prog X.w) X.A (eval a X.env) (fun v s₁=>wpAny (model X.prog X.w) X.A (eval b X.env) (fun u s₂=>wpAny (model X.prog X.w) X.A (f v u) Q X.xe s₂) X.xe s₁) X.xe s:=by
 refine dw (ha pins s σ H _ I h) fun v s1 ⟨x,H1,I1,r1,q1⟩=>?_
 refine dw (hb pins s1 σ H1 _ I1 q1) fun u s2 ⟨y,H2,I2,r2,q2⟩=>?_
 exact hf v u s2 x y H2 I2 r1 r2 q2
theorem KU{op:Operator}{r:R2}(ho:OpR X (binaryOp op) r)(ha:PE X a ta)(hb:PE X b tb):PE X (.BinOp a op b pos) (KS r ta tb):=by
 intro pins s σ H Q I h
 exact wpAny_BinOp (IE ha hb I h fun v u s2 x y H2 I2 rx ry q=>ho pins s2 σ H2 x y v u Q I2 rx ry q)
theorem KW{op:UnaryOp}{r:V→Hp→VK→Prop}(ho:MF X (unaryOp op) r)(ha:PE X a ta):PE X (.UnaryOp op a pos) (Nz r ta):=by
 intro pins s σ H Q I h
 exact UnaryOp_ (dw (ha pins s σ H _ I h) fun v s1 ⟨x,H1,I1,r1,q1⟩=>ho pins s1 σ H1 x v Q I1 r1 q1)
theorem KY{f:Value→Value→Sem Value}{C:Int→Int→Prop}{g:Int→Int→Int}
  (rule:∀(i j:Int) (t u:Tok) (s:Shared) (Q:Value→Shared→Prop) (E:Value→Shared→Prop),C i j→Q (.int (g i j) s.toks) {s with toks:=s.toks+1}→wpAny (model X.prog X.w) X.A (f (.int i t) (.int j u)) Q E s):
  OpR X f (rI C fun i j=>.int (g i j)):=by
 intro pins s σ H x y v u Q I rx ry h
 obtain⟨i,j,rfl,rfl,hc,q⟩:=h
 obtain⟨t,rfl⟩:=rx
 obtain⟨t',rfl⟩:=ry
 exact rule i j t t' s _ _ hc ⟨.int (g i j),H,I.tok _,⟨_,rfl⟩,q⟩
theorem IF{f:Value→Value→Sem Value}{g:Int→Int→Int}
  (rule:∀(i j:Int) (t u:Tok) (s:Shared) (Q:Value→Shared→Prop) (E:Value→Shared→Prop),Q (.int (g i j) s.toks) {s with toks:=s.toks+1}→wpAny (model X.prog X.w) X.A (f (.int i t) (.int j u)) Q E s):
  OpR X f (FU fun i j=>.int (g i j)):=by
 intro pins s σ H x y v u Q I rx ry h
 obtain⟨i,j,rfl,rfl,q⟩:=h
 obtain⟨t,rfl⟩:=rx
 obtain⟨t',rfl⟩:=ry
 exact rule i j t t' s _ _ ⟨.int (g i j),H,I.tok _,⟨_,rfl⟩,q⟩
theorem FV{f:Value→Value→Sem Value}{g:Int→Int→Bool}
  (rule:∀(i j:Int) (t u:Tok) (s:Shared) (Q:Value→Shared→Prop) (E:Value→Shared→Prop),Q (.bool (g i j)) s→wpAny (model X.prog X.w) X.A (f (.int i t) (.int j u)) Q E s):
  OpR X f (FU fun i j=>.bl (g i j)):=by
 intro pins s σ H x y v u Q I rx ry h
 obtain⟨i,j,rfl,rfl,q⟩:=h
 obtain⟨t,rfl⟩:=rx
 obtain⟨t',rfl⟩:=ry
 exact rule i j t t' s _ _ ⟨.bl (g i j),H,I,rfl,q⟩
def KZ(i j:Int):Prop:=0≤j∧j≤1000000∧i.natAbs < 2 ^ 64
def CMul(i j:Int):Prop:=(-(2 ^ 64) < i∧i < 2 ^ 64)∨(-(2 ^ 64) < j∧j < 2 ^ 64)
theorem CMul.ok{i j:Int}(h:CMul i j):IntMulOk i j:=by
 rcases h with⟨h1,h2⟩ |⟨h1,h2⟩
 ·exact .of_left (intBits_le_64 h1 h2)
 ·exact .of_right (intBits_le_64 h1 h2)
theorem xT(k:Nat):(0:Int)≤2 ^ k:=by
 rw[two_pow_cast]
 exact Int.natCast_nonneg _
theorem IG:OpR X (binaryOp .Add) (FU fun i j=>.int (i+j)):=IF fun _ _ _ _ _ _ _ q=>add_int q
theorem IH:OpR X (binaryOp .Sub) (FU fun i j=>.int (i - j)):=IF fun _ _ _ _ _ _ _ q=>sub_int q
theorem II:OpR X (binaryOp .Mod) (rI (fun _ j=>0 < j) fun i j=>.int (i % j)):=KY fun i j _ _ _ _ _ hc q=>by
 have h1:(0:Int) < j:=hc
 exact mod_int' (by omega) (by rw[Int.fmod_eq_emod_of_nonneg i (by omega)];exact q)
theorem IJ:OpR X (binaryOp .Pow) (rI KZ fun i j=>.int (i ^ j.toNat)):=KY fun _ _ _ _ _ _ _ hc q=>pow_int_small hc.1 hc.2.1 hc.2.2 q
theorem IK:OpR X (binaryOp .RShift) (rI (fun _ j=>0≤j) fun i j=>.int (i / 2 ^ j.toNat)):=KY fun i j _ _ _ _ _ hc q=>
 rshift_int hc (by rw[Int.fdiv_eq_ediv_of_nonneg i (xT _)];exact q)
theorem IL:OpR X (binaryOp .BitAnd) (FU fun i j=>.int (Builtin.bitAnd i j)):=IF fun _ _ _ _ _ _ _ q=>and_int q
theorem NA{f:Value→Sem Value}{g:Int→Int}
  (rule:∀(i:Int) (t:Tok) (s:Shared) (Q:Value→Shared→Prop) (E:Value→Shared→Prop),Q (.int (g i) s.toks) {s with toks:=s.toks+1}→wpAny (model X.prog X.w) X.A (f (.int i t)) Q E s):
  MF X f (rU fun i=>.int (g i)):=by
 intro pins s σ H x v Q I rx h
 obtain⟨i,rfl,q⟩:=h
 obtain⟨t,rfl⟩:=rx
 exact rule i t s _ _ ⟨.int (g i),H,I.tok _,⟨_,rfl⟩,q⟩
theorem IM:MF X (unaryOp .USub) (rU fun i=>.int (-i)):=NA fun _ _ _ _ _ q=>neg_int q
end
def IN:V→V→Bool
 |.non,.non=>true |.non,.int _=>true |.int _,.non=>true |.non,.bl _=>true |.bl _,.non=>true |.non,.str _=>true |.str _,.non=>true
 |.int _,.int _=>true |.bl _,.bl _=>true |.str _,.str _=>true |.byt _,.byt _=>true
 |.int _,.str _=>true |.str _,.int _=>true |.bl _,.str _=>true |.str _,.bl _=>true
 |_,_=>false
def Nn:R2:=fun x y H Q=>IN x y=true∧Q (.bl (decide (x=y))) H
def No:R2:=fun x y H Q=>IN x y=true∧Q (.bl (!decide (x=y))) H
theorem zV{i j:Int}:decide (V.int i=V.int j)=(i == j):=by
 rw[Bool.eq_iff_iff]
 simp
theorem CZ{i j:Bool}:decide (V.bl i=V.bl j)=(i == j):=by
 rw[Bool.eq_iff_iff]
 simp
theorem zW{i j:Str}:decide (V.str i=V.str j)=(i == j):=by
 rw[Bool.eq_iff_iff]
 simp
theorem zX{i j:Array UInt8}:decide (V.byt i=V.byt j)=(i.toList == j.toList):=by
 rw[Bool.eq_iff_iff]
 cases i
 cases j
 simp
section
variable {X:Cx} {a b c:Expr} {ta tb tc:TE} {pos:Pos}
theorem aZ{σ:St}{H:Hp}{s:Shared}{Q:VK}{k k':Bool}(I:Inv X pins σ H s)(q:Q (.bl k) H)(e:k=k'):EP X pins σ Q (.bool k') s:=by
 subst e
 exact⟨.bl k,H,I,rfl,q⟩
theorem HJ:OpR X (compareOp .Eq) Nn:=by
 intro pins s σ H x y v u Q I rx ry h
 obtain⟨hs,q⟩:=h
 cases x with
 |non=>
  cases rx
  cases y with
  |non=>cases ry;exact PySem.EqNone.eq_none_none (aZ I q (by simp))
  |bl j=>cases ry;exact PySem.EqNone.eq_none_bool (aZ I q (by simp))
  |int j=>obtain⟨t',rfl⟩:=ry;exact PySem.EqNone.eq_none_int (aZ I q (by simp))
  |str j=>obtain⟨t',rfl⟩:=ry;exact PySem.EqNone.eq_none_str (aZ I q (by simp))
  |_=>exact absurd (show false=true from hs) sT
 |bl i=>
  cases rx
  cases y with
  |non=>cases ry;exact PySem.EqNone.eq_bool_none (aZ I q (by simp))
  |bl j=>cases ry;exact eq_bool (aZ I q CZ)
  |str j=>obtain⟨t',rfl⟩:=ry;exact PySem.EqMixed.eq_bool_str (aZ I q (by simp))
  |_=>exact absurd (show false=true from hs) sT
 |int i=>
  obtain⟨t,rfl⟩:=rx
  cases y with
  |non=>cases ry;exact PySem.EqNone.eq_int_none (aZ I q (by simp))
  |int j=>obtain⟨t',rfl⟩:=ry;exact eq_int (aZ I q zV)
  |str j=>obtain⟨t',rfl⟩:=ry;exact PySem.EqMixed.eq_int_str (aZ I q (by simp))
  |_=>exact absurd (show false=true from hs) sT
 |str i=>
  obtain⟨t,rfl⟩:=rx
  cases y with
  |non=>cases ry;exact PySem.EqNone.eq_str_none (aZ I q (by simp))
  |bl j=>cases ry;exact PySem.EqMixed.eq_str_bool (aZ I q (by simp))
  |int j=>obtain⟨t',rfl⟩:=ry;exact PySem.EqMixed.eq_str_int (aZ I q (by simp))
  |str j=>obtain⟨t',rfl⟩:=ry;exact eq_str (aZ I q zW)
  |_=>exact absurd (show false=true from hs) sT
 |byt i=>
  obtain⟨t,rfl⟩:=rx
  cases y with
  |byt j=>obtain⟨t',rfl⟩:=ry;exact PySem.W.eq_bytes (aZ I q zX)
  |_=>exact absurd (show false=true from hs) sT
 |_=>cases y <;> exact absurd (show false=true from hs) sT
theorem K0:OpR X (compareOp .NotEq) No:=by
 intro pins s σ H x y v u Q I rx ry h
 obtain⟨hs,q⟩:=h
 cases x with
 |non=>
  cases rx
  cases y with
  |non=>cases ry;exact PySem.EqNone.ne_none_none (aZ I q (by simp))
  |bl j=>cases ry;exact PySem.EqNone.ne_none_bool (aZ I q (by simp))
  |int j=>obtain⟨t',rfl⟩:=ry;exact PySem.EqNone.ne_none_int (aZ I q (by simp))
  |str j=>obtain⟨t',rfl⟩:=ry;exact PySem.EqNone.ne_none_str (aZ I q (by simp))
  |_=>exact absurd (show false=true from hs) sT
 |bl i=>
  cases rx
  cases y with
  |non=>cases ry;exact PySem.EqNone.ne_bool_none (aZ I q (by simp))
  |bl j=>cases ry;exact ne_bool (aZ I q (congrArg not CZ))
  |str j=>obtain⟨t',rfl⟩:=ry;exact PySem.EqMixed.ne_bool_str (aZ I q (by simp))
  |_=>exact absurd (show false=true from hs) sT
 |int i=>
  obtain⟨t,rfl⟩:=rx
  cases y with
  |non=>cases ry;exact PySem.EqNone.ne_int_none (aZ I q (by simp))
  |int j=>obtain⟨t',rfl⟩:=ry;exact ne_int (aZ I q (congrArg not zV))
  |str j=>obtain⟨t',rfl⟩:=ry;exact PySem.EqMixed.ne_int_str (aZ I q (by simp))
  |_=>exact absurd (show false=true from hs) sT
 |str i=>
  obtain⟨t,rfl⟩:=rx
  cases y with
  |non=>cases ry;exact PySem.EqNone.ne_str_none (aZ I q (by simp))
  |bl j=>cases ry;exact PySem.EqMixed.ne_str_bool (aZ I q (by simp))
  |int j=>obtain⟨t',rfl⟩:=ry;exact PySem.EqMixed.ne_str_int (aZ I q (by simp))
  |str j=>obtain⟨t',rfl⟩:=ry;exact ne_str (aZ I q (congrArg not zW))
  |_=>exact absurd (show false=true from hs) sT
 |byt i=>
  obtain⟨t,rfl⟩:=rx
  cases y with
  |byt j=>obtain⟨t',rfl⟩:=ry;exact PySem.W.ne_bytes (aZ I q (congrArg not zX))
  |_=>exact absurd (show false=true from hs) sT
 |_=>cases y <;> exact absurd (show false=true from hs) sT
theorem K1:OpR X (compareOp .Lt) (FU fun i j=>.bl (decide (i < j))):=FV fun _ _ _ _ _ _ _ q=>lt_int q
theorem K3:OpR X (compareOp .LtE) (FU fun i j=>.bl (decide (i≤j))):=FV fun _ _ _ _ _ _ _ q=>le_int q
theorem K4:OpR X (compareOp .Gt) (FU fun i j=>.bl (decide (j < i))):=FV fun _ _ _ _ _ _ _ q=>gt_int q
theorem K5:OpR X (compareOp .GtE) (FU fun i j=>.bl (decide (j≤i))):=FV fun _ _ _ _ _ _ _ q=>ge_int q
theorem Bs:OpR X (compareOp .Lt) (fun x y H Q=>∃i j,x=.str i∧y=.str j∧Q (.bl (decide (i.cps.toList < j.cps.toList))) H):=by
 intro pins s σ H x y v u Q I rx ry h
 obtain⟨i,j,rfl,rfl,q⟩:=h
 obtain⟨t,rfl⟩:=rx
 obtain⟨t',rfl⟩:=ry
 exact lt_str (aZ I q rfl)
theorem Bt:OpR X (compareOp .In) (fun x y H Q=>∃i j,x=.str i∧y=.str j∧Q (.bl (!(Builtin.Str.occurrences j i 0 j.length 1).isEmpty)) H):=by
 intro pins s σ H x y v u Q I rx ry h
 obtain⟨i,j,rfl,rfl,q⟩:=h
 obtain⟨t,rfl⟩:=rx
 obtain⟨t',rfl⟩:=ry
 exact in_str (aZ I q rfl)
theorem OpR.or{f:Value→Value→Sem Value}{r r':R2}(h:OpR X f r)(h':OpR X f r'):OpR X f (fun x y H Q=>r x y H Q∨r' x y H Q):=by
 intro pins s σ H x y v u Q I rx ry q
 rcases q with q |q
 ·exact h pins s σ H x y v u Q I rx ry q
 ·exact h' pins s σ H x y v u Q I rx ry q
theorem sW(b:Expr){op:CmpOp}(h:op≠ .In:=by decide)(h2:op≠ .NotIn:=by decide):behindInMarks op b=false:=by
 have e1:(op == CmpOp.In)=false:=by cases op <;> first |rfl |exact absurd rfl h
 have e2:(op == CmpOp.NotIn)=false:=by cases op <;> first |rfl |exact absurd rfl h2
 cases b <;> simp[behindInMarks,e1,e2]
theorem FW{op:CmpOp}{r:R2}(ho:OpR X (compareOp op) r)(ha:PE X a ta)(hb:PE X b tb)(hm:behindInMarks op b=false):PE X (.Compare a [op] [b] pos) (KS r ta tb):=by
 intro pins s σ H Q I h
 exact wpAny_Compare1 (IE ha hb I h fun v u s2 x y H2 I2 rx ry q=>ho pins s2 σ H2 x y v u Q I2 rx ry q) hm
def K6(t:TE):TT:=fun σ H Q=>t σ H fun x H'=>∃k,x=.bl k∧Q k H'
theorem FX{op:CmpOp}{r:R2}(ho:OpR X (compareOp op) r)(ha:PE X a ta)(hb:PE X b tb)(hm:behindInMarks op b=false):PT X (.Compare a [op] [b] pos) (K6 (KS r ta tb)):=by
 intro pins s σ H Q I h
 refine wpAny_isTrue_Compare1 (dw (ha pins s σ H _ I h) fun v s1 ⟨x,H1,I1,r1,q1⟩=>dw (hb pins s1 σ H1 _ I1 q1) fun u s2 ⟨y,H2,I2,r2,q2⟩=>
  dw (ho pins s2 σ H2 x y v u _ I2 r1 r2 q2) fun c s3 ⟨z,H3,I3,r3,k,e,q3⟩=>?_) hm
 subst e
 cases r3
 exact wpAny_truthy_bool ⟨H3,I3,q3⟩
def C3(r r':R2)(ta tb tc:TE):TE:=fun σ H Q=>ta σ H fun x H1=>tb σ H1 fun y H2=>r x y H2 fun z H3=>∃k,z=.bl k∧
 (if k=true then tc σ H3 fun w' H4=>r' y w' H4 Q else Q (.bl false) H3)
theorem C4{op op':CmpOp}{r r':R2}(ho:OpR X (compareOp op) r)(ho':OpR X (compareOp op') r')(ha:PE X a ta)(hb:PE X b tb)(hc:PE X c tc)
  (hm:lastMarks [op,op'] [b,c]=false:=by with_unfolding_all rfl):PE X (.Compare a [op,op'] [b,c] pos) (C3 r r' ta tb tc):=by
 intro pins s σ H Q I h
 refine Compare_chain (dw (ha pins s σ H _ I h) fun v s1 ⟨x,H1,I1,r1,q1⟩=>chain_link (dw (hb pins s1 σ H1 _ I1 q1) fun u s2 ⟨y,H2,I2,r2,q2⟩=>
  dw (ho pins s2 σ H2 x y v u _ I2 r1 r2 q2) fun d s3 ⟨z,H3,I3,r3,k,e,q3⟩=>?_)) hm
 subst e
 cases r3
 refine wpAny_truthy_bool ?_
 cases k with
 |false=>exact ite_ff ⟨.bl false,H3,I3,rfl,q3⟩
 |true=>exact ite_tt (chain_last (dw (hc pins s3 σ H3 _ I3 q3) fun w' s4 ⟨z',H4,I4,r4,q4⟩=>ho' pins s4 σ H4 y z' u w' Q I4 r2 r4 q4))
def C5(K:Frag)(x:V)(H:Hp)(k:Bool):Prop:=
 match x with
 |.non=>k=false
 |.bl b=>k=b
 |.int i=>k=(i != 0)
 |.str y=>y.length≤sizeLine∧k=((y.length:Int) != 0)
 |.byt y=>y.size≤sizeLine∧k=((y.size:Int) != 0)
 |.ref p=>(∃xs,SqL K H p xs∧k= !xs.isEmpty)∨(∃xs,SqT K H p xs∧k= !xs.isEmpty)∨∃kvs,H p=some (.dK kvs)∧k= !kvs.isEmpty
 |_=>False
theorem xU{κ:Type}{kvs:List (κ×V)}{vs:List (κ×Value)}(r:KV kvs vs):(!vs.isEmpty)= !kvs.isEmpty:=by
 cases r <;> rfl
theorem pF(r:Vals xs its):(!its.toArray.isEmpty)= !xs.isEmpty:=by
 cases r <;> simp
theorem nh:(sizeLine:Nat) < 2 ^ 63:=by rw[sizeLine_eq];decide
theorem IO:MG X (fun x H Q=>∃k,C5 X.K x H k∧Q k H):=by
 intro pins s σ H x v Q I rx h
 obtain⟨k,e,q⟩:=h
 have hl:=nh
 have hs:sizeLine=16777216:=sizeLine_eq
 cases x with
 |non=>
  cases rx
  have e':k=false:=e
  subst e'
  exact truthy_none ⟨H,I,q⟩
 |bl b=>
  cases rx
  have e':k=b:=e
  subst e'
  exact wpAny_truthy_bool ⟨H,I,q⟩
 |int i=>
  obtain⟨t,rfl⟩:=rx
  have e':k=(i != 0):=e
  subst e'
  exact PySem.P.truthy_int ⟨H,I,q⟩
 |str y=>
  obtain⟨t,rfl⟩:=rx
  obtain⟨hy,e'⟩:y.length≤sizeLine∧k=((y.length:Int) != 0):=e
  subst e'
  exact PySem.P.truthy_str (by omega) ⟨H,I.tok _,q⟩
 |byt y=>
  obtain⟨t,rfl⟩:=rx
  obtain⟨hy,e'⟩:y.size≤sizeLine∧k=((y.size:Int) != 0):=e
  subst e'
  exact PySem.W.truthy_bytes (by omega) ⟨H,I.tok _,q⟩
 |ref p=>
  cases rx
  have e':(∃xs,SqL X.K H p xs∧k= !xs.isEmpty)∨(∃xs,SqT X.K H p xs∧k= !xs.isEmpty)∨∃kvs,H p=some (.dK kvs)∧k= !kvs.isEmpty:=e
  rcases e' with⟨xs,hx,e'⟩ |⟨xs,hx,e'⟩ |⟨kvs,hx,e'⟩
  ·subst e'
   obtain⟨its,r,pl,hz⟩:=I.list hx
   have hlen:=r.length
   exact wpAny_truthy_list pl.isList (by simp only[k7];omega) ⟨H,I.tok _,by rw[pF r];exact q⟩
  ·subst e'
   obtain⟨its,r,pl,hz⟩:=I.tuple hx
   have hlen:=r.length
   exact truthy_tuple pl (by simp only[k7];omega) ⟨H,I.tok _,by rw[pF r];exact q⟩
  ·subst e'
   obtain⟨hz,hS,vs,r,m⟩:kvs.length≤sizeLine∧(p == sysModules)=false∧∃vs,KV kvs vs∧s.heap.DictOf (pc X.prog X.w) p vs:=I.hok p _ hx
   have hlen:kvs.length=vs.length:=Paired.length r
   exact wpAny_truthy_dict hS m (by omega) ⟨H,I.tok _,by rw[xU r];exact q⟩
 |_=>exact(show False from e).elim
theorem C6(ha:PE X a ta)(he:∀whole,isTrue a X.env whole=(do let v ←whole;standAt a.pos;holding [v] (truthy v))):
  PT X a (fun σ H Q=>ta σ H fun x H'=>∃k,C5 X.K x H' k∧Q k H'):=by
 intro pins s σ H Q I h
 exact isTrue_plain (dw (ha pins s σ H _ I h) fun v s1 ⟨x,H1,I1,r1,q1⟩=>IO pins s1 σ H1 x v Q I1 r1 q1) (he _)
theorem xV:OpR X (binaryOp .Add) (fun x y H Q=>∃i j,x=.str i∧y=.str j∧i.length+j.length≤sizeLine∧Q (.str (i++j)) H):=by
 intro pins s σ H x y v u Q I rx ry h
 obtain⟨i,j,rfl,rfl,hz,q⟩:=h
 obtain⟨t,rfl⟩:=rx
 obtain⟨t',rfl⟩:=ry
 exact add_str (fun t' tk=>⟨.str (i++j),H,I.tok _,⟨_,rfl⟩,q⟩) hz
theorem zY{x:V}(r:Vals [x] us):∃u,us=[u]∧RelV x u:=by
 cases r with
 |cons r1 r2=>cases r2;exact⟨_,rfl,r1⟩
theorem C7:CallR X (.builtin "abs") (fun xs H Q=>∃i,xs=[.int i]∧Q (.int (if i < 0 then -i else i)) H):=by
 intro pins s σ H xs us Q I r h
 obtain⟨i,rfl,q⟩:=h
 obtain⟨u,rfl,t,rfl⟩:=zY r
 exact call_abs_int fun u tk=>⟨.int (if i < 0 then -i else i),H,I.tok _,⟨_,rfl⟩,q⟩
end
end L2
variable {r':L2.R2}
namespace L2
open PySem PySem.Spec PyProof.Rows
structure ObjM (h:Heap) (x dx C:Addr) (mA:Str→Option Value):Prop where
 obj:h.get? x=some (instObj C dx)
 ns:h.Ns1 dx mA
 ne:dx≠x
theorem Bu{dx:Addr}{mA:Str→Option Value}(n:h.Ns1 dx mA):∃od,h.get? dx=some od∧∀name,lookIn name od=some (mA name):=by
 obtain⟨o,es,ep,ho,hd,hk,_,hm⟩:=n
 refine⟨o,ho,fun name=>?_⟩
 have e:=hm name
 unfold nsFind findBy at e
 rw[←Array.find?_toList]at e
 unfold lookIn
 rw[hd]
 dsimp only
 split
 ·rename_i y q
  rw[q]at e
  exact congrArg some e
 ·rename_i q
  rw[q]at e
  have a:es.toList.any (·.refKey)=false:=by
   rw[List.any_eq_false]
   intro y hy
   obtain⟨z,t,hkey⟩:=hk y (Array.mem_toList_iff.mp hy)
   simp[DictEntry.refKey,hkey]
  have a':¬es.toList.any (·.refKey)=true:=by rw[a];exact sT
  rw[if_neg a']
  exact congrArg some e
theorem ObjM.look{x dx:Addr}{mA:Str→Option Value}(I:ObjM h x dx C mA):∃od,PySem.W.InstAt h x (instObj C dx) C (some od)∧∀name,lookIn name od=some (mA name):=
 let ⟨od,ho,hl⟩:=Bu I.ns
 ⟨od,⟨I.obj,rfl,rfl,ho⟩,hl⟩
section
variable {P:Program} {w:World} {H H':Hp} {h h':Heap} {a C dx:Addr} {fs fs':List (Str×V)}
theorem FY(hok:HOk P w H h)(e:H a=some (.ins C dx fs)):∃mA,ObjM h a dx C mA∧(∀f,Im (fs.lookup f) (mA f))∧PySem.Within mA (fs.map (·.1))∧fs.length≤1000∧H dx=some (.own a):=by
 obtain⟨d,z,ne,ob,mA,n,r,q⟩:=(show ObjOk P w H h a (.ins C dx fs)from hok a _ e)
 exact⟨mA,⟨ob,n,ne⟩,r,q,z,d⟩
end
structure Cls (K:Frag) (C:Addr):Prop where
 pg:PySem.W.plainGet K C Str.empty=true
 hd:PySem.W.hasDictIn K C=true
 po:PySem.W.plainOver K C=true
 sa:findIn K (.ref C) "__setattr__"=some (some (.builtin "object.__setattr__"))
theorem Cls.get{K:Frag}(c:Cls K C)(f:Str):PySem.W.plainGet K C f=true:=c.pg
section
variable {X:Cx} {pins:List (Addr×Obj)} {σ:St} {H:Hp} {s:Shared} {A:Around} {E:Value→Shared→Prop} {Q:Value→Shared→Prop} {c:Value} {b:Bool}
inductive TyOf (K:Frag) (H:Hp):V→Value→Prop where
 |non:TyOf K H .non (.type "NoneType")
 |bl (x:Bool):TyOf K H (.bl x) (.type "bool")
 |int (i:Int):TyOf K H (.int i) (.type "int")
 |str (x:Str):TyOf K H (.str x) (.type "str")
 |flt (x:UInt64):TyOf K H (.flt x) (.type "float")
 |lst {a:Addr} {xs:List V} (e:H a=some (.lst xs)):TyOf K H (.ref a) (.type "list")
 |frz {a:Addr} {o:Obj} {xs:List V} (e:H a=some (.frz o (.lst xs))):TyOf K H (.ref a) (.type "list")
 |tup {a:Addr} {xs:List V} (e:H a=some (.tup xs)):TyOf K H (.ref a) (.type "tuple")
 |dK {a:Addr} {kvs:List (jS×V)} (e:H a=some (.dK kvs)):TyOf K H (.ref a) (.type "dict")
 |dT {a:Addr} {kvs:List (List jS×V)} (e:H a=some (.dT kvs)):TyOf K H (.ref a) (.type "dict")
 |ins {a C dx:Addr} {fs:List (Str×V)} (e:H a=some (.ins C dx fs)) (cl:Cls K C) (ha:findIn K (.ref C) "__class__"=some (some (.builtin "object.__class__")))
   (hn:PySem.W.specialIn K (.builtin "object.__class__") "__get__"=some (some (.builtin "getset_descriptor.__get__"))) (htk:PySem.W.takesIn K (.builtin "object.__class__")=some true)
   (hm:mroIn K C (.type "object")=some true):TyOf K H (.ref a) (.ref C)
theorem kG{x:V}{u t:Value}(I:Inv X pins σ H s)(rx:RelV x u)(ty:TyOf X.K H x t)(e:kitOne X.K t c=some b)(h:∀tk,Q (.bool b) {s with toks:=tk}):
  wpAny (model X.prog X.w) A (call (.builtin "isinstance") [u,c]) Q E s:=by
 cases ty with
 |non=>cases(show u=Value.none from rx);exact kia_one PySem.W.kitx_none I.kIn True.intro e (fun z=>nomatch z) h
 |bl y=>cases(show u=Value.bool y from rx);exact kia_one PySem.W.kitx_bool I.kIn True.intro e (fun z=>nomatch z) h
 |int i=>obtain⟨t,q⟩:=(show ∃t,u=Value.int i t from rx);cases q;exact kia_one PySem.W.kitx_int I.kIn True.intro e (fun z=>nomatch z) h
 |str y=>obtain⟨t,q⟩:=(show ∃t,u=Value.str y t from rx);cases q;exact kia_one PySem.W.kitx_str I.kIn True.intro e (fun z=>nomatch z) h
 |flt y=>obtain⟨t,q⟩:=(show ∃t,u=Value.float y t from rx);cases q;exact kia_one PySem.W.kitx_float I.kIn True.intro e (fun z=>nomatch z) h
 | @lst a xs ea=>
  cases(show u=Value.ref a from rx)
  obtain⟨_,_,n,_,h1⟩:=(show ObjOk X.prog X.w H s.heap a (.lst xs)from I.hok a _ ea)
  exact kia_one kitx_list I.kIn ⟨_,h1,rfl⟩ e (fun z=>nomatch z) h
 | @frz a ob xs ea=>
  cases(show u=Value.ref a from rx)
  obtain⟨_,_,_,n,_,h1⟩:=(show ObjOk X.prog X.w H s.heap a (.frz ob (.lst xs))from I.hok a _ ea)
  exact kia_one kitx_list I.kIn ⟨_,h1,rfl⟩ e (fun z=>nomatch z) h
 | @tup a xs ea=>
  cases(show u=Value.ref a from rx)
  obtain⟨_,_,_,p⟩:=(show ObjOk X.prog X.w H s.heap a (.tup xs)from I.hok a _ ea)
  obtain⟨o,h1,h2,_⟩:=p
  exact kia_one PySem.W.kitx_tuple I.kIn ⟨o,h1,h2⟩ e (fun z=>nomatch z) h
 | @dK a kvs ea=>
  cases(show u=Value.ref a from rx)
  obtain⟨_,_,vs,_,p⟩:=(show ObjOk X.prog X.w H s.heap a (.dK kvs)from I.hok a _ ea)
  obtain⟨o,es,ep,h1,h2,_⟩:=p
  exact kia_one kitx_dict I.kIn ⟨o,h1,h2.1⟩ e (fun z=>nomatch z) h
 | @dT a kvs ea=>
  cases(show u=Value.ref a from rx)
  obtain⟨_,_,xs,_,o,es,ep,h1,h2,_⟩:=(show ObjOk X.prog X.w H s.heap a (.dT kvs)from I.hok a _ ea)
  exact kia_one kitx_dict I.kIn ⟨o,h1,h2.1⟩ e (fun z=>nomatch z) h
 | @ins a C dx fs ea cl ha hn htk hm=>
  cases(show u=Value.ref a from rx)
  obtain⟨mA,O,_⟩:=FY I.hok ea
  obtain⟨od,J,_⟩:=O.look
  exact kia_one (PySem.W.kitx_own (cl.get _) cl.hd ha hn htk hm) I.kIn J e (fun z=>nomatch z) h
end
end L2
namespace L2
open PySem PySem.Spec PyProof.Rows
structure Room (k:Nat) (A:Around):Prop where
 hd:A.handled=none
 dp:A.depth+3*k+5 < recursionLimit
 un:A.units+16*k+200 < cLine
theorem Room.mono{A:Around}(r:Room k A)(h:j≤k):Room j A:=⟨r.hd,by have:=r.dp;omega,by have:=r.un;omega⟩
theorem Room.deeper{A:Around}(r:Room (k+1) A)(env:Env):Room k (A.deeper env):=
 ⟨r.hd,by have:=r.dp;show A.depth+1+3*k+5 < _;omega,by have:=r.un;show A.units+3+16*k+200 < _;omega⟩
theorem Room.depth{A:Around}(r:Room k A):A.depth < recursionLimit:=by have:=r.dp;omega
theorem Room.units{A:Around}(r:Room k A):A.units+64 < cLine:=by have:=r.un;omega
def MH:TA:=fun _ H Q=>Q [] H
def K7(ta:TE)(tr:TA):TA:=fun σ H Q=>ta σ H fun x H1=>tr σ H1 fun xs H2=>Q (x::xs) H2
section
variable {X:Cx} {e:Expr} {es:List Expr} {te:TE} {t:TA} {pos:Pos}
theorem d0:PA X [] MH:=fun _ _ _ _ H Q I h=>Calls.spliced_nil ⟨[],H,I,.nil,h⟩
theorem bU(ha:PE X e te)(hr:PA X es t)(hs:starEach (e::es) X.env=(false,eval e X.env)::starEach es X.env:=by rfl):PA X (e::es) (K7 te t):=by
 intro pos pins s σ H Q I h
 rw[hs]
 show wpAny _ _ (spliced ((false,eval e X.env)::backTo pos (starEach es X.env))) _ _ s
 refine Calls.spliced_cons (dw (ha pins s σ H _ I h) fun u s1 ⟨x,H1,I1,r1,q1⟩=>?_)
 exact dw (hr pos pins s1 σ H1 _ I1 q1) fun us s2 ⟨xs,H2,I2,r2,q2⟩=>⟨x::xs,H2,I2,.cons r1 r2,q2⟩
def MI(t:TA):TE:=fun σ H Q=>t σ H fun xs H1=>xs.length≤sizeLine∧∀p,H1 p=none→Q (.ref p) (upd H1 p (.tup xs))
def MJ(t:TA):TE:=fun σ H Q=>t σ H fun xs H1=>xs.length≤sizeLine∧∀p,H1 p=none→Q (.ref p) (upd H1 p (.lst xs))
theorem IQ{x1}(h:PA X es t):PE X (.Tuple es x1 pos) (MI t):=by
 intro pins s σ H Q I hq
 refine wpAny_Tuple_spliced (dw (h pos pins s σ H _ I hq) fun us s1 ⟨xs,H1,I1,r,z,q⟩=>⟨by rw[←r.length];exact z,?_⟩)
 have hf:H1 s1.heap.objs.size=none:=I1.hok.fresh (fz _)
 refine⟨.ref s1.heap.objs.size,upd H1 s1.heap.objs.size (.tup xs),I1.laid (t':=s1.toks) (fun b u e=>gD _ e) (fz _) ?_,rfl,q _ hf⟩
 exact⟨z,us,r,⟨_,mf _ rfl,rfl,_,rfl⟩⟩
theorem IR(h:PA X es t):PE X (.List es pos) (MJ t):=by
 intro pins s σ H Q I hq
 refine wpAny_List_spliced (dw (h pos pins s σ H _ I hq) fun us s1 ⟨xs,H1,I1,r,z,q⟩=>⟨by rw[←r.length];exact z,?_⟩)
 have hf:H1 s1.heap.objs.size=none:=I1.hok.fresh (fz _)
 refine⟨.ref s1.heap.objs.size,upd H1 s1.heap.objs.size (.lst xs),I1.laid (t':=s1.toks) (fun b u e=>gD _ e) (fz _) ?_,rfl,q _ hf⟩
 exact⟨z,us,0,r,mf _ rfl⟩
end
abbrev Sp:=List V→Hp→VK→XK→Prop
abbrev C8:=List Env→Hp→Shared→XK→Value→Shared→Prop
structure Env0 (P:Program) (w:World) (K:Frag) (mg:Str→Option Value) (base:Heap) (A:Around) (outer:List Env) (s:Shared) (H:Hp):Prop where
 frames:A.frames=some outer
 mod:Mod K mg base
 bs:∀b o,base.get? b=some o→s.heap.get? b=some o∧H b=none
 bsz:base.objs.size≤s.heap.objs.size
 funs:s.heap.FunFrames base outer
 frf:∀b∈iz outer,H b=none
 hok:HOk P w H s.heap
 bare:AllBare s.gens
 tab:∀b q,mh K b=some q→H b=some (.tbl q)
def CE(outer:List Env)(P:Program)(w:World)(H:Hp)(s:Shared)(Q:VK)(u:Value)(s':Shared):Prop:=
 ∃v H',s'.os=s.os∧AllBare s'.gens∧Un (iz outer) [] H H' s.heap s'.heap∧HOk P w H' s'.heap∧RelV v u∧Q v H'
def CR(CX:C8)(outer:List Env)(P:Program)(w:World)(H:Hp)(s:Shared)(Q:VK)(E:XK)(r:Result)(s':Shared):Prop:=
 match r with
 |.ok (.ret u)=>CE outer P w H s Q u s'
 |.ok _=>False
 |.error e=>CX outer H s E e s'
structure FnOk (P:Program) (w:World) (K:Frag) (mg:Str→Option Value) (base:Heap) (CX:C8) (k:Nat) (f:Addr) (fd:FuncData) (ps:List Str) (sp:Sp):Prop where
 len:∀vs H Q E,sp vs H Q E→vs.length=ps.length
 run:∀(A:Around) (outer:List Env) (s:Shared) (H:Hp) (args:Args) (us:List Value) (vs:List V) (Q:VK) (E:XK),Room k A→Env0 P w K mg base A outer s H→BindsTo s fd args (ps.zip us)→Vals vs us→sp vs H Q E→
  codeAny (model P w) A (.call (.ref f) args) (CR CX outer P w H s Q E) s
section
variable {X:Cx} {pins:List (Addr×Obj)} {σ:St} {H:Hp} {s s':Shared}
theorem Inv.env0(I:Inv X pins σ H s):Env0 X.prog X.w X.K X.mg X.base X.A X.stack s H:=
 ⟨I.ok.frames,I.ok.mod,I.bs,jP I.ok.bsz I.sz,I.stack,I.stkFree,I.hok,I.bare,I.tab⟩
theorem Inv.after{Q:VK}{u:Value}(I:Inv X pins σ H s)(h:CE X.stack X.prog X.w H s Q u s'):EP X pins σ Q u s':=by
 obtain⟨v,H',os,bare,un,hok,r,q⟩:=h
 obtain⟨hh,g,d,t,os'⟩:=s'
 obtain rfl:os'=s.os:=os
 exact⟨v,H',I.call (h':=hh) (g':=g) (d':=d) (t':=t) (ch:=[]) un hok bare (fun b z=>absurd z (by simp)),r,q⟩
end
def C9(sp:Sp)(dvs:List V)(E:XK)(t:TA):TE:=fun σ H Q=>t σ H fun vs H1=>sp (vs++dvs) H1 Q E
def Binds(K:Frag)(fd:FuncData)(ps:List Str)(ds:List Value):Prop:=
 ∀(s:Shared) (us:List Value),K.In s.heap→(us++ds).length=ps.length→BindsTo s fd ⟨us,[]⟩ (ps.zip (us++ds))
theorem Binds.all{K:Frag}(h:∀us:List Value,us.length=ps.length→bindArgs fd ⟨us,[]⟩=pure (ps.zip us)):Binds K fd ps []:=fun s us _ hl=>by
 rw[oR]at hl ⊢
 exact .of_eq (h us hl)
def xW(CX:C8)(X:Cx)(E:XK):Prop:=∀(pins:List (Addr×Obj)) (σ:St) (H:Hp) (s:Shared) (e:Value) (s':Shared),Inv X pins σ H s→CX X.stack H s E e s'→X.xe e s'
section
variable {X:Cx} {CX:C8} {k:Nat} {f C:Addr} {fd:FuncData} {ps:List Str} {sp:Sp} {dvs:List V} {ds:List Value} {E:XK} {x m:Str} {p pos apos:Pos} {e o:Expr} {es:List Expr} {ta:TE} {t:TA}
theorem C_{σ:St}{H:Hp}{s:Shared}{Q:VK}(F:FnOk X.prog X.w X.K X.mg X.base CX k f fd ps sp)(hr:Room k X.A)(hb:Binds X.K fd ps ds)(hd:Vals dvs ds)(hx:xW CX X E)
  (I:Inv X pins σ H s) (r:Vals vs us) (h:sp (vs++dvs) H Q E):wpAny (model X.prog X.w) X.A (call (.ref f) us) (EP X pins σ Q) X.xe s:=by
 have r2:Vals (vs++dvs) (us++ds):=r.append hd
 have hl:(us++ds).length=ps.length:=by rw[←r2.length];exact F.len _ _ _ _ h
 refine wpAny_call (codeAny_mono (F.run X.A X.stack s H ⟨us,[]⟩ (us++ds) (vs++dvs) Q E hr I.env0 (hb s us I.kIn hl) r2 h) fun r s' hq=>?_)
 cases r with
 |error e=>exact hx pins σ H s e s' I hq
 |ok fl=>
  cases fl with
  |ret u=>exact I.after hq
  |next=>exact False.elim hq
  |brk=>exact False.elim hq
  |cont=>exact False.elim hq
theorem FZ(F:FnOk X.prog X.w X.K X.mg X.base CX k f fd ps sp)(hr:Room k X.A)(hg:Gl X x)(hm:X.mg x=some (.ref f))(hk:keepIn X.K (.ref f)=true)(hb:Binds X.K fd ps ds)(hd:Vals dvs ds)(hx:xW CX X E)
  (ha:PA X (e::es) t) (hdb:(x == ("__debug__":Str))=false:=by decide) (he:starEach (e::es) X.env=(false,eval e X.env)::starEach es X.env:=by rfl) (hpl:(backTo pos (starEach es X.env)).any (·.1)=false:=by rfl):
  PE X (.Call (.Name x p) (e::es) [] pos) (C9 sp dvs E t):=by
 intro pins s σ H Q I h
 refine zz6 (fX I hg hm ?_ hdb)
 refine callWith_K (h₀:=X.base) I.ok.mod.kin hk (dw (ha pos pins s σ H _ I h) fun us s1 ⟨vs,H1,I1,r,q⟩=>⟨I1.kIn,?_⟩) he hpl
 exact C_ F hr hb hd hx I1 r q
end
structure FnScope (N P:List Str) (sc:Scope):Prop where
 kind:sc.kind=.function
 co:sc.isCoroutine=false
 gen:sc.isGenerator=false
 nd:N.Nodup
 pre:N.take P.length=P
 par:∀x∈P,sc.names.lookup x=some .local∨sc.names.lookup x=some .cell
 nofree:∀y∈sc.names,y.2≠ .free
theorem rE{kindOf:Str→Option NameKind}:∀{binds:List (Str×Value)} {m:Str→Option Value},(∀v,(x,v)∉binds)→bindL kindOf binds m x=m x
 |[],_,_=>rfl
 |(n,v)::r,m,h=>by
  unfold bindL
  rw[rE fun w hw=>h w (gQ _ hw)]
  split
  ·have:x≠n:=by rintro rfl;exact h v gE
   simp[this]
  ·rfl
theorem rF{kindOf:Str→Option NameKind}:∀{binds:List (Str×Value)} {m:Str→Option Value},(∀v,(x,v)∉binds)→bindC kindOf binds m x=m x
 |[],_,_=>rfl
 |(n,v)::r,m,h=>by
  unfold bindC
  rw[rF fun w hw=>h w (gQ _ hw)]
  split
  ·rfl
  ·have:x≠n:=by rintro rfl;exact h v gE
   simp[this]
theorem rG{kindOf:Str→Option NameKind}{v:Value}:∀{P:List Str} {vs:List Value} {i:Nat} {m:Str→Option Value},P.Nodup→P[i]? =some x→vs[i]? =some v→kindOf x=some .local→
  bindL kindOf (P.zip vs) m x=some v
 |[],_,_,_,_,h,_,_=>by simp at h
 |_::_,[],_,_,_,_,h,_=>by simp at h
 |p::P,w::vs,0,m,nd,h1,h2,hk=>by
  simp at h1 h2;subst h1;subst h2
  show bindL kindOf ((p,w)::P.zip vs) m p=_
  unfold bindL
  rw[rE fun v hv=>(List.nodup_cons.mp nd).1 (List.of_mem_zip hv).1,if_pos hk]
  simp
 |p::P,w::vs,i+1,m,nd,h1,h2,hk=>by
  show bindL kindOf ((p,w)::P.zip vs) m x=_
  unfold bindL
  exact rG (i:=i) (List.nodup_cons.mp nd).2 (by simpa using h1) (by simpa using h2) hk
theorem rH{kindOf:Str→Option NameKind}{v:Value}:∀{P:List Str} {vs:List Value} {i:Nat} {m:Str→Option Value},P.Nodup→P[i]? =some x→vs[i]? =some v→kindOf x≠some .local→
  bindC kindOf (P.zip vs) m x=some v
 |[],_,_,_,_,h,_,_=>by simp at h
 |_::_,[],_,_,_,_,h,_=>by simp at h
 |p::P,w::vs,0,m,nd,h1,h2,hk=>by
  simp at h1 h2;subst h1;subst h2
  show bindC kindOf ((p,w)::P.zip vs) m p=_
  unfold bindC
  rw[rF fun v hv=>(List.nodup_cons.mp nd).1 (List.of_mem_zip hv).1,if_neg hk]
  simp
 |p::P,w::vs,i+1,m,nd,h1,h2,hk=>by
  show bindC kindOf ((p,w)::P.zip vs) m x=_
  unfold bindC
  exact rH (i:=i) (List.nodup_cons.mp nd).2 (by simpa using h1) (by simpa using h2) hk
def gB(N:List Str)(vs:List V):St:=vs.map some++List.replicate (N.length - vs.length) none
def je(CX:C8)(P:Program)(w:World)(K:Frag)(mg:Str→Option Value)(base:Heap)(N:List Str)(qual:Str)(scope:Scope)(f:Addr)(cd:Value)(A:Around)(outer:List Env)(s:Shared)(H:Hp)(E:XK):Cx where
 prog:=P
 w:=w
 K:=K
 mg:=mg
 base:=base
 A:=A.deeper (envOfC qual scope s.heap.objs.size f cd)
 N:=N
 s₀:=s
 H₀:=H
 env:=envOfC qual scope s.heap.objs.size f cd
 outer:=outer
 stack:=envOfC qual scope s.heap.objs.size f cd::outer
 ex:=[]
 calm:=true
 fn:=fun _=>true
 pn:=[]
 xe:=fun e s'=>wpAny (model P w) (A.deeper (envOfC qual scope s.heap.objs.size f cd)) (leaving (envOfC qual scope s.heap.objs.size f cd) e) (fun _ s''=>CX outer H s E e s'') (fun e' s''=>CX outer H s E e' s'') s'
theorem vK{sc:Scope}(h:sc.names.lookup x=some .cell):∃c,(cellsFrom n sc.names []).lookup x=some c:=by
 have q:=cellsFrom_some sc.names n [] (.inl h)
 exact Option.isSome_iff_exists.mp q
theorem rJ{CX:C8}{w:World}{K:Frag}{mg:Str→Option Value}{base:Heap}{N:List Str}{f:Addr}{cd:Value}{A:Around}{outer:List Env}{s s1:Shared}{H:Hp}{E:XK}
  (S:FnScope N ps scope) (hd:A.handled=none) (e0:Env0 P w K mg base A outer s H) (hl:vs.length=ps.length) (r:Vals vs us)
  (x:InCallC s s.heap.objs.size (bindL (envOfC qual scope s.heap.objs.size f cd).kindOf (ps.zip us) fun _=>none) (cellsFrom (s.heap.objs.size+1) scope.names []) (bindC (envOfC qual scope s.heap.objs.size f cd).kindOf (ps.zip us) fun _=>none) s1):
  Inv (je CX P w K mg base N qual scope f cd A outer s H E) [] (gB N vs) H s1:=by
 have hpl:ps.length≤N.length:=by have:=congrArg List.length S.pre;rw[List.length_take]at this;omega
 obtain⟨h1,tk,rfl,hk⟩:=x.done
 have noA:∀b:Addr,b∉(je CX P w K mg base N qual scope f cd A outer s H E).ex:=fun b z=>absurd (show b∈([]:List Addr)from z) (by simp)
 refine⟨⟨e0.mod,S.kind,rfl,rfl,fz _,fun y z c h1 h2=>?_,fun y hy=>?_,fun y c _ h=>?_,fun _=>hd,Around.frames_deeper e0.frames,.inr ⟨rfl,rfl⟩,fun b z=>absurd z (noA b),e0.bs,e0.bsz,fun b _ _=>noA b,fun b z=>absurd z (noA b),e0.funs,e0.frf,e0.tab⟩,
  rfl,e0.bare,Un.kept hk,⟨_,x.toInCall.ns,fun i y v h1 h2 h3=>?_⟩,fun y c h=>⟨_,x.cell y c h⟩,e0.hok.fresh (fz _),fun y c h=>?_,fun p hp=>absurd (show p∈([]:List (Addr×Obj))from hp) (by simp),e0.hok.kept hk,?_⟩
 ·exact name_of_addr x.apart (PySem.mem_of_lookup h1) (PySem.mem_of_lookup h2)
 ·have hy:scope.names.lookup y=some .cell∨scope.names.lookup y=some .free:=hy
  rcases hy with hy |hy
  ·exact vK hy
  ·exact absurd rfl (S.nofree _ (PySem.mem_of_lookup hy))
 ·exact lq (x.above y c (PySem.mem_of_lookup h))
 ·have hi:i < vs.length:=by
   unfold gB at h2
   by_cases hi:i < vs.length
   ·exact hi
   ·rw[FD (by simpa using hi)]at h2
    rw[List.getElem?_replicate]at h2
    split at h2 <;> cases h2
  have ha:vs[i]? =some v:=by
   unfold gB at h2
   rw[List.getElem?_append_left (by simpa using hi),zP]at h2
   cases e:vs[i]? with
   |none=>rw[e]at h2;cases h2
   |some a=>rw[e]at h2;cases h2;rfl
  obtain⟨u,hu,rv⟩:=r.get ha
  have hp:ps[i]? =some y:=by
   rw[←S.pre,List.getElem?_take_of_lt (by omega)];exact h1
  have ndP:ps.Nodup:=by rw[←S.pre];exact S.nd.sublist (List.take_sublist _ _)
  refine⟨u,rv,?_⟩
  rcases S.par y (List.mem_of_getElem? hp)with k |k
  ·exact .inl ⟨k,rG ndP hp hu k⟩
  ·obtain⟨c,e⟩:=vK (n:=s.heap.objs.size+1) k
   refine .inr ⟨.inl k,c,e,?_⟩
   have q:=x.cell y c e
   rw[rH ndP hp hu (by show scope.names.lookup y≠_;rw[k];decide)]at q
   exact q
 ·exact e0.hok.fresh (lq (x.above y c (PySem.mem_of_lookup h)))
 ·unfold gB
  show _=N.length
  rw[pA,eM,List.length_replicate]
  omega
theorem Da{CX:C8}{w:World}{K:Frag}{mg:Str→Option Value}{base:Heap}{f:Addr}{name:Str}{dV kV ct:Value}{od:Option Addr}
   {N:List Str} {sp:Sp} (lk:K.lookup f=some ⟨oc,od,.func (fnOf name qual params body scope dV kV doc pm an cdv ct),osl⟩) (hcd:codeIn K cdv qual=true) (S:FnScope N ps scope)
  (len:∀vs H Q E,sp vs H Q E→vs.length=ps.length)
  (hbody:∀(A:Around) (outer:List Env) (s:Shared) (H:Hp) (vs:List V) (Q:VK) (E:XK),Room k (A.deeper (envOfC qual scope s.heap.objs.size f cdv))→sp vs H Q E→
   ∃t,PSs (je CX P w K mg base N qual scope f cdv A outer s H E) body t∧t {nx:=fun _ H'=>Q .non H',rt:=Q} (gB N vs) H):
  FnOk P w K mg base CX (k+1) f (fnOf name qual params body scope dV kV doc pm an cdv ct) ps sp:=by
 refine⟨len,fun A outer s H args us vs Q E hr e0 hb r hsp=>?_⟩
 have hl:=len _ _ _ _ hsp
 have KX:K.In s.heap:=e0.mod.kin.keeps fun b o e=>(e0.bs b o e).1
 have lim:s.heap.NoLimit:=e0.mod.nolimit.keeps fun b o e=>(e0.bs b o e).1
 have hkind:∀y∈ps.zip us,scope.names.lookup y.1=some .local∨(scope.names.lookup y.1=some .cell∧((cellsFrom (s.heap.objs.size+1) scope.names []).lookup y.1).isSome=true):=fun⟨n,v⟩ hy=>by
  rcases S.par n (List.of_mem_zip hy).1 with q |q
  ·exact .inl q
  ·exact .inr ⟨q,cellsFrom_some _ _ _ (.inl q)⟩
 refine codeAny_call_function hr.depth (KX _ _ lk) rfl S.co S.gen rfl (PySem.W.codeRec_of KX hcd) (hb _ _ _ _ ?_)
 refine wpAny_newFunctionEnv_cells S.kind hkind fun env he s1 x=>?_
 subst he
 refine⟨lim.keeps x.toInCall.keep,codeAny_func ?_⟩
 obtain⟨t,ht,hq⟩:=hbody A outer s H vs Q E (hr.deeper _) hsp
 have I:Inv (je CX P w K mg base N qual scope f cdv A outer s H E) [] (gB N vs) H s1:=rJ S hr.hd e0 hl r x
 refine zz2 (ht [] s1 (gB N vs) H _ I hq) (fun fl s' hs=>?_) fun e s' hs=>hs
 have fin:∀{σ':St} {H':Hp} {v:V} {u:Value},Inv (je CX P w K mg base N qual scope f cdv A outer s H E) [] σ' H' s'→RelV v u→Q v H'→CE outer P w H s Q u s':=
  fun {σ' H' v u} J rv q=>⟨v,H',J.os,J.bare,J.base,J.hok,rv,q⟩
 cases fl with
 |ret u=>
  obtain⟨v,σ',H',J,rv,q⟩:=hs
  exact fin J rv q
 |next=>
  obtain⟨σ',H',J,q⟩:=hs
  exact fin (v:=V.non) (u:=Value.none) J rfl q
 |brk=>
  obtain⟨_,_,_,q⟩:=hs
  exact False.elim q
 |cont=>
  obtain⟨_,_,_,q⟩:=hs
  exact False.elim q
end L2
variable {sp:L2.Sp}
namespace L2
open PySem PySem.Spec PyProof.Rows
section
variable {X:Cx} {x:Str} {p pos:Pos} {e:Expr} {es:List Expr} {t:TA} {id T:String} {r:List V→Hp→VK→Prop}
def MK(r:List V→Hp→VK→Prop)(t:TA):TE:=fun σ H Q=>t σ H fun vs H1=>r vs H1 Q
theorem jU(hc:CallR X (.builtin id) r) (hg:Gl X x) (hm:X.mg x=none) (hv:bootBuiltins x=some (.builtin id)) (ha:PA X (e::es) t) (hn:x≠"__name__":=by decide) (hdb:(x == ("__debug__":Str))=false:=by decide)
  (he:starEach (e::es) X.env=(false,eval e X.env)::starEach es X.env:=by rfl) (hpl:(backTo pos (starEach es X.env)).any (·.1)=false:=by rfl):PE X (.Call (.Name x p) (e::es) [] pos) (MK r t):=by
 intro pins s σ H Q I h
 refine zz6 (jT I hg hm hv ?_ hn hdb)
 exact PyProof.Rows.callWith_builtin1 (dw (ha pos pins s σ H _ I h) fun us s1 ⟨vs,H1,I1,r1,q1⟩=>hc pins s1 σ H1 vs us Q I1 r1 q1) he hpl
theorem rK(hc:CallR X (.type T) r) (hg:Gl X x) (hm:X.mg x=none) (hv:bootBuiltins x=some (.type T)) (ha:PA X (e::es) t) (hn:x≠"__name__":=by decide) (hdb:(x == ("__debug__":Str))=false:=by decide)
  (he:starEach (e::es) X.env=(false,eval e X.env)::starEach es X.env:=by rfl) (hpl:(backTo pos (starEach es X.env)).any (·.1)=false:=by rfl):PE X (.Call (.Name x p) (e::es) [] pos) (MK r t):=by
 intro pins s σ H Q I h
 refine zz6 (jT I hg hm hv ?_ hn hdb)
 exact PyProof.Rows.callWith_type1 (dw (ha pos pins s σ H _ I h) fun us s1 ⟨vs,H1,I1,r1,q1⟩=>hc pins s1 σ H1 vs us Q I1 r1 q1) he hpl
end
end L2
namespace HT
open PySem PyProof.Rows
section
open PySem.SeqAt
open PySem.AutoSeq1 (wpAny_loadPart')
open PySem.MeetsSeq PySem.MeetsSeq2 PySem.MeetsSeq3
end
section
variable {prog:Program} {w:World} {A:Around} {E:Value→Shared→Prop} {s:Shared}
def qO(n d:Nat):Option Int→Nat
 |none=>d
 |some v=>if v < 0 then (v+(n:Int)).toNat else min v.toNat n
theorem zZ(n d k:Nat):qO n d (some (k:Int))=min k n:=by
 show(if (k:Int) < 0 then ((k:Int)+(n:Int)).toNat else min (k:Int).toNat n)=min k n
 rw[if_neg (by omega),Int.toNat_natCast]
end
end HT
namespace L2
open PySem PySem.Spec PyProof.Rows
abbrev TO:=St→Hp→(Option Int→Hp→Prop)→Prop
def PO(X:Cx)(e:Option Expr)(t:TO):Prop:=
 ∀(pins:List (Addr×Obj)) (s:Shared) (σ:St) (H:Hp) (Q:Option Int→Hp→Prop),Inv X pins σ H s→t σ H Q→
  wpAny (model X.prog X.w) X.A (evalPart e X.env) (fun u s'=>∃o H',Inv X pins σ H' s'∧IsPart u o∧Q o H') X.xe s
def F4:TO:=fun _ H Q=>Q none H
def K8(t:TE):TO:=fun σ H Q=>t σ H fun x H1=>∃i,x=.int i∧Q (some i) H1
section
variable {X:Cx} {e:Expr} {te:TE} {lo hi:Option Expr} {tl th:TO} {pos p2:Pos}
theorem F8:PO X none F4:=by
 intro pins s σ H Q I h
 rw[evalPart_none]
 exact zz1 ⟨none,H,I,.none,h⟩
theorem F_(h:PE X e te):PO X (some e) (K8 te):=by
 intro pins s σ H Q I hw
 rw[evalPart_some]
 refine dw (h pins s σ H _ I hw) fun u s1 ⟨x,H1,I1,r1,q1⟩=>?_
 obtain⟨i,rfl,q⟩:=q1
 obtain⟨t,rfl⟩:=r1
 exact⟨some i,H1,I1,.int i t,q⟩
def SlR(X:Cx)(r:V→Option Int→Option Int→Hp→VK→Prop):Prop:=
 ∀(pins:List (Addr×Obj)) (s:Shared) (σ:St) (H:Hp) (x:V) (v vl vu:Value) (lo hi:Option Int) (sl:Addr) (Q:VK),Inv X pins σ H s→RelV x v→s.heap.IsSliceOf sl vl vu .none→IsPart vl lo→IsPart vu hi→r x lo hi H Q→
  ∃T id,typeLookup (.type T) "__getitem__"=pure (some (.builtin id))∧s.TypeIs v T∧wpAny (model X.prog X.w) X.A (getItem v (.ref sl)) (EP X pins σ Q) X.xe s
theorem SlR.or{r r':V→Option Int→Option Int→Hp→VK→Prop}(h:SlR X r)(h':SlR X r'):SlR X (fun x lo hi H Q=>r x lo hi H Q∨r' x lo hi H Q):=by
 intro pins s σ H x v vl vu lo hi sl Q I rx hs pl pu q
 rcases q with q |q
 ·exact h pins s σ H x v vl vu lo hi sl Q I rx hs pl pu q
 ·exact h' pins s σ H x v vl vu lo hi sl Q I rx hs pl pu q
def NB(r:V→Option Int→Option Int→Hp→VK→Prop)(te:TE)(tl th:TO):TE:=fun σ H Q=>te σ H fun x H1=>tl σ H1 fun l H2=>th σ H2 fun u H3=>r x l u H3 Q
theorem Db{r:V→Option Int→Option Int→Hp→VK→Prop}(hr:SlR X r)(he:PE X e te)(hl:PO X lo tl)(hu:PO X hi th):PE X (.Subscript e (.Slice lo hi none p2) pos) (NB r te tl th):=by
 intro pins s σ H Q I h
 refine Subscript_ (dw (he pins s σ H _ I h) fun v s1 ⟨x,H1,I1,r1,q1⟩=>?_)
 refine wpAny_Slice (dw (hl pins s1 σ H1 _ I1 q1) fun vl s2 ⟨l,H2,I2,pl,q2⟩=>dw (hu pins s2 σ H2 _ I2 q2) fun vu s3 ⟨u,H3,I3,pu,q3⟩=>?_)
 rw[evalPart_none]
 refine zz1 ?_
 have I4:Inv X pins σ H3 {s3 with heap:=s3.heap.push {cls:=.type "slice",data:=.fields #[vl,vu,.none]}}:=I3.kept (t':=s3.toks) fun b ob q=>gD _ q
 obtain⟨T,id,hT,ht,hg⟩:=hr pins {s3 with heap:=s3.heap.push {cls:=.type "slice",data:=.fields #[vl,vu,.none]}} σ H3 x v vl vu l u s3.heap.objs.size Q I4 r1 (Heap.IsSliceOf.new ..) pl pu q3
 show wpAny (model X.prog X.w) X.A (subscriptTail e (.Slice lo hi none p2) v (.ref s3.heap.objs.size)) (EP X pins σ Q) X.xe {s3 with heap:=s3.heap.push {cls:=.type "slice",data:=.fields #[vl,vu,.none]}}
 exact tail_any (ops:=[.ref s3.heap.objs.size,v]) ht hT hg (by with_unfolding_all rfl)
def Bv(xs:List V)(lo hi:Option Int):List V:=(xs.drop (HT.qO xs.length 0 lo)).take (HT.qO xs.length xs.length hi - HT.qO xs.length 0 lo)
theorem vL(xs:List V)(lo hi:Option Int):(Bv xs lo hi).length≤xs.length:=by
 unfold Bv
 rw[List.length_take,List.length_drop]
 omega
end
end L2
namespace L2
open PySem PySem.Spec PyProof.Rows
def K9(n:Nat)(i:Int):Option Nat:=if 0≤i then (if i < n then some i.toNat else none)else if -(n:Int)≤i then some (i+n).toNat else none
def atI{α:Type}(xs:List α)(i:Int):Option α:=(K9 xs.length i).bind fun j=>xs[j]?
theorem Ga{i:Int}(h:K9 n i=some j):seqIndex? i n=some j∧j < n∧ -(n:Int)≤i∧i < n:=by
 unfold K9 at h
 by_cases h0:0≤i
 ·rw[if_pos h0]at h
  by_cases h1:i < n
  ·rw[if_pos h1]at h
   have e:i.toNat=j:=Option.some.inj h
   exact⟨by rw[seqIndex_of h0 h1,e],by omega,by omega,h1⟩
  ·rw[if_neg h1]at h;cases h
 ·rw[if_neg h0]at h
  by_cases h1: -(n:Int)≤i
  ·rw[if_pos h1]at h
   have e:(i+n).toNat=j:=Option.some.inj h
   exact⟨by rw[seqIndex_neg (by omega) h1,e],by omega,h1,by omega⟩
  ·rw[if_neg h1]at h;cases h
theorem sX{xs:List α}{i:Int}{v:α}(h:atI xs i=some v):∃j,seqIndex? i xs.length=some j∧xs[j]? =some v∧j < xs.length∧ -(xs.length:Int)≤i∧i < xs.length:=by
 unfold atI at h
 cases e:K9 xs.length i with
 |none=>rw[e]at h;cases h
 |some j=>
  rw[e]at h
  obtain⟨h1,h2,h3,h4⟩:=Ga e
  exact⟨j,h1,h,h2,h3,h4⟩
def z_(b:Expr):Prop:=∀o i,subscripted b false o i=operate [o,i] (getItem o i)
def IxR(X:Cx)(r:R2):Prop:=
 ∀(value slice:Expr) (pins:List (Addr×Obj)) (s:Shared) (σ:St) (H:Hp) (x y:V) (v u:Value) (Q:VK),Inv X pins σ H s→RelV x v→RelV y u→r x y H Q→
  subscripted slice false v u=operate [v,u] (getItem v u)→wpAny (model X.prog X.w) X.A (subscriptTail value slice v u) (EP X pins σ Q) X.xe s
def K_(X:Cx)(id:String)(r:V→List V→Hp→VK→Prop):Prop:=
 ∀(pins:List (Addr×Obj)) (s:Shared) (σ:St) (H:Hp) (x:V) (xs:List V) (v:Value) (us:List Value) (Q:VK),Inv X pins σ H s→RelV x v→Vals xs us→r x xs H Q→
  wpAny (model X.prog X.w) X.A (call (.builtin id) (v::us)) (EP X pins σ Q) X.xe s
section
variable {X:Cx} {a b:Expr} {ta tb:TE} {pos:Pos}
theorem IxR.or{r:R2}(h:IxR X r)(h':IxR X r'):IxR X (fun x y H Q=>r x y H Q∨r' x y H Q):=by
 intro value slice pins s σ H x y v u Q I rx ry q hs
 rcases q with q |q
 ·exact h value slice pins s σ H x y v u Q I rx ry q hs
 ·exact h' value slice pins s σ H x y v u Q I rx ry q hs
theorem La{r:R2}(hr:IxR X r)(ha:PE X a ta)(hb:PE X b tb)(hs:z_ b):PE X (.Subscript a b pos) (KS r ta tb):=by
 intro pins s σ H Q I h
 exact Subscript_ (IE ha hb I h fun v u s2 x y H2 I2 rx ry q=>hr a b pins s2 σ H2 x y v u Q I2 rx ry q (hs _ _))
def Lb(K:Frag):R2:=fun x y H Q=>∃p xs i v,x=.ref p∧y=.int i∧SqL K H p xs∧atI xs i=some v∧Q v H
def Lc(K:Frag):R2:=fun x y H Q=>∃p xs i v,x=.ref p∧y=.int i∧SqT K H p xs∧atI xs i=some v∧Q v H
def Ld:R2:=fun x y H Q=>∃z i c,x=.str z∧y=.int i∧z.length≤sizeLine∧atI z.cps.toList i=some c∧Q (.str ⟨#[c]⟩) H
theorem ix_list:IxR X (Lb X.K):=by
 intro value slice pins s σ H x y v u Q I rx ry h hs
 obtain⟨p,xs,i,z,rfl,rfl,hq,he,q⟩:=h
 cases rx
 obtain⟨t,rfl⟩:=ry
 obtain⟨its,r,pl,hz⟩:=I.list hq
 obtain⟨j,h1,h2,h3,h4,h5⟩:=sX he
 obtain⟨w,ew,rw'⟩:=r.get h2
 have hl:=r.length
 have hn:=nh
 have fin:EP X pins σ Q w s:=⟨z,H,I,rw',q⟩
 by_cases h0:0≤i
 ·have hj:i.toNat=j:=by
   rw[seqIndex_of h0 h5]at h1
   exact Option.some.inj h1
  exact item_listR pl.isList h0 (by omega) (by rw[hj];simpa using ew) fin hs
 ·have hj:(i+(its.toArray.size:Int)).toNat=j:=by
   rw[seqIndex_neg (by omega) h4]at h1
   rw[k7,←hl]
   exact Option.some.inj h1
  exact subscriptTail_builtinR (x:=w) pl.isList.typeIs slot_list_getitem.lookup
   (wpAny_getItem_list_neg (Q:=fun r s'=>r=w∧EP X pins σ Q r s') pl.isList (by omega) (by rw[k7] <;> omega) (by omega) (by rw[hj];simpa using ew) ⟨rfl,fin⟩) hs
theorem ix_tup:IxR X (Lc X.K):=by
 intro value slice pins s σ H x y v u Q I rx ry h hs
 obtain⟨p,xs,i,z,rfl,rfl,hq,he,q⟩:=h
 cases rx
 obtain⟨t,rfl⟩:=ry
 obtain⟨its,r,pl,hz⟩:=I.tuple hq
 obtain⟨j,h1,h2,h3,h4,h5⟩:=sX he
 obtain⟨w,ew,rw'⟩:=r.get h2
 have hl:=r.length
 have hn:=nh
 have fin:EP X pins σ Q w s:=⟨z,H,I,rw',q⟩
 exact subscriptTail_builtinR (x:=w) pl.typeIs slot_tuple_getitem.lookup
  (getItem_tuple (j:=j) (Q:=fun r s'=>r=w∧EP X pins σ Q r s') pl (by omega) (by omega) (by rw[k7,←hl];exact h1) (by simpa using ew) ⟨rfl,fin⟩) hs
theorem IS:IxR X Ld:=by
 intro value slice pins s σ H x y v u Q I rx ry h hs
 obtain⟨z,i,c,rfl,rfl,hz,he,q⟩:=h
 obtain⟨t,rfl⟩:=rx
 obtain⟨t',rfl⟩:=ry
 obtain⟨j,h1,h2,h3,h4,h5⟩:=sX he
 have hl:z.cps.toList.length=z.length:=by simp[Str.length]
 rw[hl]at h1 h4 h5
 have hn:=nh
 exact tail_any (typeIs_str s z t) slot_str_getitem.lookup (getItem_str (c:=c) (by
  have e1:decide (i < -(2 ^ 63:Int))=false:=zz3 (by omega)
  have e2:decide (i≥2 ^ 63)=false:=zz3 (by omega)
  rw[e1,e2,Bool.or_false]) (by rw[h1];simpa using h2) ⟨.str ⟨#[c]⟩,H,I.tok _,⟨_,rfl⟩,q⟩) hs
def Np(K:Frag):R2:=fun x y H Q=>Lb K x y H Q∨Lc K x y H Q∨Ld x y H Q
theorem IT:IxR X (Np X.K):=ix_list.or (ix_tup.or IS)
theorem sY(lo hi:Option Int)(n:Nat):(sliceBounds lo hi none n).1=((HT.qO n 0 lo:Nat):Int)∧(sliceBounds lo hi none n).2.1=((HT.qO n n hi:Nat):Int)∧(sliceBounds lo hi none n).2.2=1:=by
 refine⟨?_,?_,rfl⟩
 ·cases lo with
  |none=>simp[sliceBounds,HT.qO]
  |some i=>
   simp only[sliceBounds,HT.qO,Option.getD_none,show(1:Int) > 0 by decide,if_true]
   by_cases h:i < 0
   ·simp only[h,if_true] <;> omega
   ·simp only[h,if_false] <;> omega
 ·cases hi with
  |none=>simp[sliceBounds,HT.qO]
  |some i=>
   simp only[sliceBounds,HT.qO,Option.getD_none,show(1:Int) > 0 by decide,if_true]
   by_cases h:i < 0
   ·simp only[h,if_true] <;> omega
   ·simp only[h,if_false] <;> omega
theorem qQ(its:List Value)(lo hi:Option Int):slicePick its.toArray lo hi none=((its.drop (HT.qO its.length 0 lo)).take (HT.qO its.length its.length hi - HT.qO its.length 0 lo)).toArray:=by
 obtain⟨h1,h2,h3⟩:=sY lo hi its.toArray.size
 unfold slicePick
 rw[h1,h2,h3]
 simp only[sliceRange_one,pick_run,k7] <;> rfl
def ML(K:Frag):V→Option Int→Option Int→Hp→VK→Prop:=fun x lo hi H Q=>∃a xs,x=.ref a∧SqL K H a xs∧∀p,H p=none→Q (.ref p) (upd H p (.lst (Bv xs lo hi)))
theorem Gb:SlR X (ML X.K):=by
 intro pins s σ H x v vl vu lo hi sl Q I rx hs pl pu h
 obtain⟨a,xs,rfl,hx,q⟩:=h
 cases rx
 obtain⟨its,r,ht,hz⟩:=I.list hx
 have hlen:=r.length
 refine⟨"list",_,slot_list_getitem.lookup,ht.isList.typeIs,?_⟩
 refine wpAny_getItem_list_slice ht.isList hs pl pu .none (by simp) ?_ (by rw[k7] <;> omega)
 rw[qQ,←hlen]
 refine⟨.ref s.heap.objs.size,_,I.laid (t':=s.toks) (o:=.lst (Bv xs lo hi)) (fun b ob q=>gD _ q) (fz _) ?_,rfl,q _ (I.hok.fresh (fz _))⟩
 exact⟨jP (vL xs lo hi) hz,_,0,(r.drop (HT.qO xs.length 0 lo)).take (HT.qO xs.length xs.length hi - HT.qO xs.length 0 lo),mf _ rfl⟩
def iB:V→Bool
 |.non=>true
 |.bl _=>true
 |.int _=>true
 |.str _=>true
 |_=>false
def FG:V→V→Bool
 |.non,.non=>true
 |.bl a,.bl b=>a == b
 |.bl a,.int b=>(if a then 1 else 0) == b
 |.int a,.bl b=>a == (if b then 1 else 0)
 |.int a,.int b=>a == b
 |.str a,.str b=>a == b
 |_,_=>false
theorem IU{A:Around}{s:Shared}{y x:V}{u v:Value}(ry:RelV y u)(rx:RelV x v)(fy:iB y=true)(fx:iB x=true):SeqAt.EqAt A s u v (FG y x):=by
 cases y with
 |non=>
  cases ry
  cases x with
  |non=>cases rx;exact SeqAt.EqAt.same _
  |bl b=>cases rx;exact SeqAt.EqAt.none_bool b
  |int b=>obtain⟨t,rfl⟩:=rx;exact SeqAt.EqAt.none_int b t
  |str b=>obtain⟨t,rfl⟩:=rx;exact SeqAt.EqAt.none_str b t
  |_=>exact absurd (show false=true from fx) sT
 |bl a=>
  cases ry
  cases x with
  |non=>cases rx;exact SeqAt.EqAt.bool_none a
  |bl b=>cases rx;exact SeqAt.EqAt.bool_bool a b
  |int b=>obtain⟨t,rfl⟩:=rx;exact SeqAt.EqAt.bool_int a b t
  |str b=>obtain⟨t,rfl⟩:=rx;exact SeqAt.EqAt.bool_str a b t
  |_=>exact absurd (show false=true from fx) sT
 |int a=>
  obtain⟨t',rfl⟩:=ry
  cases x with
  |non=>cases rx;exact SeqAt.EqAt.int_none a t'
  |bl b=>cases rx;exact SeqAt.EqAt.int_bool a t' b
  |int b=>obtain⟨t,rfl⟩:=rx;exact SeqAt.EqAt.int_int a t' b t
  |str b=>obtain⟨t,rfl⟩:=rx;exact SeqAt.EqAt.int_str a t' b t
  |_=>exact absurd (show false=true from fx) sT
 |str a=>
  obtain⟨t',rfl⟩:=ry
  cases x with
  |non=>cases rx;exact SeqAt.EqAt.str_none a t'
  |bl b=>cases rx;exact SeqAt.EqAt.str_bool a t' b
  |int b=>obtain⟨t,rfl⟩:=rx;exact SeqAt.EqAt.str_int a t' b t
  |str b=>obtain⟨t,rfl⟩:=rx;exact SeqAt.EqAt.str_str a t' b t
  |_=>exact absurd (show false=true from fx) sT
 |_=>exact absurd (show false=true from fy) sT
def Aa(x:V)(u:Value):Bool:=match u with
 |.none=>FG .non x
 |.bool b=>FG (.bl b) x
 |.int i _=>FG (.int i) x
 |.str z _=>FG (.str z) x
 |_=>false
theorem Dc{x y:V}{u:Value}(r:RelV y u)(f:iB y=true):Aa x u=FG y x:=by
 cases y with
 |non=>cases r;rfl
 |bl b=>cases r;rfl
 |int i=>obtain⟨t,rfl⟩:=r;rfl
 |str z=>obtain⟨t,rfl⟩:=r;rfl
 |_=>exact absurd (show false=true from f) sT
theorem sZ{x:V}:∀{xs:List V} {us:List Value},Vals xs us→xs.all iB=true→us.any (Aa x)=xs.any fun y=>FG y x
 |_,_,.nil,_=>rfl
 |y::xs,u::us,.cons r t,f=>by
  rw[List.all_cons,rC]at f
  rw[List.any_cons,List.any_cons,Dc r f.1,sZ t f.2]
theorem jV{A:Around}{s:Shared}{x:V}{v:Value}(rx:RelV x v)(fx:iB x=true):∀{xs:List V} {us:List Value},Vals xs us→xs.all iB=true→∀u∈us,SeqAt.EqAt A s u v (Aa x u)
 |_,_,.nil,_=>fun u hu=>by cases hu
 |y::xs,u::us,.cons r t,f=>fun u' hu=>by
  rw[List.all_cons,rC]at f
  rcases Zag.mp hu with rfl |hu
  ·rw[Dc r f.1];exact IU r rx f.1 fx
  ·exact jV rx fx t f.2 u' hu
def KB(x:V)(xs:List V):Bool:=xs.any fun y=>FG y x
def Nq(K:Frag)(neg:Bool):R2:=fun x y H Q=>∃p xs,y=.ref p∧(SqL K H p xs∨SqT K H p xs)∧iB x=true∧xs.all iB=true∧Q (.bl (if neg then !KB x xs else KB x xs)) H
theorem Bw:OpR X (compareOp .In) (Nq X.K false):=by
 intro pins s σ H x y v u Q I rx ry h
 obtain⟨p,xs,rfl,hq,fx,fs,q⟩:=h
 cases ry
 rcases hq with hq |hq
 ·obtain⟨its,r,pl,hz⟩:=I.list hq
  refine SeqAt.in_listAt (Aa x) pl.isList (fun w hw=>jV rx fx r fs w (by simpa using hw)) ⟨.bl _,H,I,rfl,?_⟩
  rw[show its.toArray.any (Aa x)=its.any (Aa x) by simp,sZ r fs]
  exact q
 ·obtain⟨its,r,pl,hz⟩:=I.tuple hq
  refine SeqAt.in_tupleAt (Aa x) pl (fun w hw=>jV rx fx r fs w (by simpa using hw)) ⟨.bl _,H,I,rfl,?_⟩
  rw[show its.toArray.any (Aa x)=its.any (Aa x) by simp,sZ r fs]
  exact q
theorem s_:CallR X (.builtin "len") (fun xs H Q=>∃p ys,xs=[.ref p]∧(SqL X.K H p ys∨SqT X.K H p ys)∧Q (.int ys.length) H):=by
 intro pins s σ H xs us Q I r h
 obtain⟨p,ys,rfl,hq,q⟩:=h
 obtain⟨u,rfl,rx⟩:=zY r
 cases rx
 have hn:=nh
 rcases hq with hq |hq
 ·obtain⟨its,r',pl,hz⟩:=I.list hq
  have hlen:=r'.length
  exact Calls.call_len_list pl.isList (by simp only[k7] <;> omega) ⟨.int ys.length,H,I.tok _,⟨s.toks+1,by rw[k7,hlen]⟩,q⟩
 ·obtain⟨its,r',pl,hz⟩:=I.tuple hq
  have hlen:=r'.length
  exact len_tuple pl (by simp only[k7] <;> omega) ⟨.int ys.length,H,I.tok _,⟨s.toks+1,by rw[k7,hlen]⟩,q⟩
theorem td:CallR X (.builtin "len") (fun xs H Q=>∃z,xs=[.str z]∧z.length≤sizeLine∧Q (.int z.length) H):=by
 intro pins s σ H xs us Q I r h
 obtain⟨z,rfl,hz,q⟩:=h
 obtain⟨u,rfl,t,rfl⟩:=zY r
 have hn:=nh
 exact len_str (by omega) ⟨.int z.length,H,I.tok _,⟨_,rfl⟩,q⟩
theorem CallR.or{f:Value}{r r':List V→Hp→VK→Prop}(h:CallR X f r)(h':CallR X f r'):CallR X f (fun xs H Q=>r xs H Q∨r' xs H Q):=by
 intro pins s σ H xs us Q I rs q
 rcases q with q |q
 ·exact h pins s σ H xs us Q I rs q
 ·exact h' pins s σ H xs us Q I rs q
theorem ti:CallR X (.type "list") (fun xs H Q=>∃p ys,xs=[.ref p]∧(SqL X.K H p ys∨SqT X.K H p ys)∧∀l,H l=none→Q (.ref l) (upd H l (.lst ys))):=by
 intro pins s σ H xs us Q I r h
 obtain⟨p,ys,rfl,hq,q⟩:=h
 obtain⟨u,rfl,rx⟩:=zY r
 cases rx
 have fin:∀(its:List Value),Vals ys its→ys.length≤sizeLine→∀(h':Heap) (c':Nat),(∀b o',s.heap.get? b=some o'→h'.get? b=some o')→
   h'.get? s.heap.objs.size=some {cls:=.type "list",dict:=none,data:=.seq its.toArray c',slots:=#[]}→EP X pins σ Q (.ref s.heap.objs.size) {s with heap:=h'}:=fun its r' hz h' c' kp e=>
  ⟨.ref s.heap.objs.size,_,I.laid (t':=s.toks) kp (fz _) (show ObjOk X.prog X.w _ h' _ (.lst ys)from⟨hz,its,c',r',e⟩),rfl,q _ (I.hok.fresh (fz _))⟩
 rcases hq with hq |hq
 ·obtain⟨its,r',pl,hz⟩:=I.list hq
  have hlen:=r'.length
  obtain⟨o,ho,hc,n,hd⟩:=pl.isList
  exact call_list_seq p (.inl rfl) ho hc hd (fun h' c' kp e=>fin its r' hz h' c' kp e) (by simp only[k7] <;> omega)
 ·obtain⟨its,r',pl,hz⟩:=I.tuple hq
  have hlen:=r'.length
  obtain⟨o,ho,hc,n,hd⟩:=pl
  exact call_list_seq p (.inr rfl) ho hc hd (fun h' c' kp e=>fin its r' hz h' c' kp e) (by simp only[k7] <;> omega)
def MM(K:Frag)(T:String)(x:V)(H:Hp):Prop:=match x with
 |.str _=>T="str"
 |.int _=>T="int"
 |.ref p=>(T="list"∧∃xs,SqL K H p xs)∨(T="tuple"∧∃o,K.lookup p=some o∧o.cls=.type "tuple"∧o.dict=none)∨
   (T="dict"∧((∃kvs,H p=some (.dK kvs))∨∃kvs,H p=some (.dT kvs)))∨(T="set"∧∃S n,H p=some (.set S n))
 |_=>False
theorem De{σ:St}{H:Hp}{s:Shared}{x:V}{v:Value}(I:Inv X pins σ H s)(r:RelV x v)(ty:MM X.K T x H):
  s.TypeIs v T∧∀a,v=.ref a→∃ob,s.heap.get? a=some ob∧ob.dict=none:=by
 cases x with
 |str z=>
  obtain⟨t,rfl⟩:=r
  cases(show T="str" from ty)
  exact⟨typeIs_str s z t,fun _ e=>nomatch e⟩
 |int i=>
  obtain⟨t,rfl⟩:=r
  cases(show T="int" from ty)
  exact⟨typeIs_int s i t,fun _ e=>nomatch e⟩
 |ref p=>
  cases r
  rcases ty with⟨rfl,xs,hq⟩ |⟨rfl,o,hk,hc,hd⟩ |⟨rfl,hk⟩ |⟨rfl,S,n,hk⟩
  ·obtain⟨its,_,pl,_⟩:=I.list hq
   refine⟨pl.isList.typeIs,fun a e=>?_⟩
   cases e
   obtain⟨o,n,e,c,hd,_⟩:=pl
   exact⟨o,e,hd⟩
  ·refine⟨⟨o,I.kIn p o hk,hc⟩,fun a e=>?_⟩
   cases e
   exact⟨o,I.kIn _ o hk,hd⟩
  ·have z:∃o,s.heap.get? p=some o∧o.ExactDict:=by
    rcases hk with⟨kvs,hk⟩ |⟨kvs,hk⟩
    ·obtain⟨_,_,_,_,o,_,_,e,ex,_⟩:=I.hok p _ hk
     exact⟨o,e,ex⟩
    ·obtain⟨_,_,_,_,o,_,_,e,ex,_⟩:=I.hok p _ hk
     exact⟨o,e,ex⟩
   obtain⟨o,e,ex⟩:=z
   refine⟨⟨o,e,ex.1⟩,fun a e2=>?_⟩
   cases e2
   exact⟨o,e,ex.2.1⟩
  ·obtain⟨o,_,_,_,e,ex,_⟩:=I.hok p _ hk
   refine⟨⟨o,e,ex.1⟩,fun a e2=>?_⟩
   cases e2
   exact⟨o,e,ex.2.1⟩
 |_=>exact False.elim ty
def MN(K:Frag)(T:String)(r:V→List V→Hp→VK→Prop)(to:TE):TE:=fun σ H Q=>to σ H fun x H1=>MM K T x H1∧r x [] H1 Q
def NC(K:Frag)(T:String)(r:V→List V→Hp→VK→Prop)(to:TE)(t:TA):TE:=fun σ H Q=>to σ H fun x H1=>MM K T x H1∧t σ H1 fun xs H2=>r x xs H2 Q
variable {o e:Expr} {es:List Expr} {to:TE} {t:TA} {name:Str} {apos cpos:Pos} {T id:String} {r:V→List V→Hp→VK→Prop}
theorem Df(pa:PlainAttrs T) (slot:Slot T name id) (hty:typeOf (.builtin id)=pure (.type "method_descriptor")) (hm:K_ X id r) (ho:PE X o to)
  (hbase:attributeBase o name X.env (eval o X.env)=eval o X.env:=by rfl) (hline:(apos.endLine == cpos.line)=true:=by rfl):PE X (.Call (.Attribute o name apos) [] [] cpos) (MN X.K T r to):=by
 intro pins s σ H Q I h
 refine wpAny_Call_method0_late hbase hline (dw (ho pins s σ H _ I h) fun v s1 ⟨x,H1,I1,r1,ty,q1⟩=>?_)
 obtain⟨h1,h2⟩:=De I1 r1 ty
 exact⟨T,id,pa,slot,hty,h1,h2,Calls.callWith_builtin rfl (PySem.evalArgs_none (hm pins s1 σ H1 x [] v [] Q I1 r1 .nil q1))⟩
theorem vM(pa:PlainAttrs T) (slot:Slot T name id) (hty:typeOf (.builtin id)=pure (.type "method_descriptor")) (hm:K_ X id r) (ho:PE X o to) (ha:PA X (e::es) t)
  (hbase:attributeBase o name X.env (eval o X.env)=eval o X.env:=by rfl)
  (hfew:((backTo cpos (starEach (e::es) X.env)).all (fun x=> !x.1)&&(backToKw cpos (keywordEach [] X.env)).all (fun x=>x.1.isSome)
   &&decide ((e::es).length+([]:List Keyword).length+(if ([]:List Keyword).isEmpty then 0 else 1) < 30))=true:=by rfl)
  (hline:(apos.endLine == cpos.line)=true:=by rfl) (hs:starEach (e::es) X.env=(false,eval e X.env)::starEach es X.env:=by rfl) (hplain:(backTo cpos (starEach es X.env)).any (·.1)=false:=by rfl):
  PE X (.Call (.Attribute o name apos) (e::es) [] cpos) (NC X.K T r to t):=by
 intro pins s σ H Q I h
 refine wpAny_Call_method_late hbase hfew hline rfl (dw (ho pins s σ H _ I h) fun v s1 ⟨x,H1,I1,r1,ty,q1⟩=>?_)
 obtain⟨h1,h2⟩:=De I1 r1 ty
 refine⟨T,id,pa,slot,hty,h1,h2,?_⟩
 have hA:=ha cpos pins s1 σ H1 _ I1 q1
 rw[hs]at hA ⊢
 refine Calls.callWith_builtin (by show(false||(backTo cpos (starEach es X.env)).any (·.1))=false;rw[hplain] <;> rfl) (Calls.evalArgs_plain ?_)
 exact dw hA fun us s2 ⟨vs,H2,I2,r2,q2⟩=>hm pins s2 σ H2 x vs v us Q I2 r1 r2 q2
end
end L2
namespace L2
open PySem PySem.Spec PyProof.Rows
def Mi(X:Cx)(id:String)(r:V→List V→Hp→VK→Prop):Prop:=
 ∀(pins:List (Addr×Obj)) (s:Shared) (σ:St) (H:Hp) (x:V) (xs:List V) (v:Value) (us:List Value) (Q:VK),Inv X pins σ H s→RelV x v→Vals xs us→r x xs H Q→
  wpAny (model X.prog X.w) X.A (call (.builtin id) (v::us)) (EP X pins σ Q) X.xe s
theorem Vals.one{x:V}(h:Vals [x] us):∃u,us=[u]∧RelV x u:=by
 cases h with
 |cons r t=>cases t;exact⟨_,rfl,r⟩
theorem Vals.two{x y:V}(h:Vals [x,y] us):∃u v,us=[u,v]∧RelV x u∧RelV y v:=by
 cases h with
 |cons r t=>
  obtain⟨v,rfl,q⟩:=Vals.one t
  exact⟨_,_,rfl,r,q⟩
theorem Vals.zero:∀{us:List Value},Vals [] us→us=[]
 |_,.nil=>rfl
theorem Vals.dropLast(h:Vals xs us):Vals xs.dropLast us.dropLast:=by
 induction h with
 |nil=>exact .nil
 |cons r t ih=>
  cases t with
  |nil=>exact .nil
  |cons q t'=>exact .cons r ih
theorem Vals.reverse(h:Vals xs us):Vals xs.reverse us.reverse:=by
 induction h with
 |nil=>exact .nil
 |cons r t ih=>rw[List.reverse_cons,List.reverse_cons];exact Vals.append ih (.cons r .nil)
theorem Vals.rep(h:Vals xs us):∀k:Nat,Vals (List.replicate k xs).flatten (List.replicate k us).flatten
 | 0=>.nil
 |k+1=>by
  rw[List.replicate_succ,List.replicate_succ,List.flatten_cons,List.flatten_cons]
  exact Vals.append h (Vals.rep h k)
theorem xX(l:List α):l.eraseIdx (l.length - 1)=l.dropLast:=by
 induction l with
 |nil=>rfl
 |cons a r ih=>
  cases r with
  |nil=>rfl
  |cons b r=>
   have e:(a::b::r).length - 1=((b::r).length - 1)+1:=by
    have h1:(a::b::r).length=r.length+2:=rfl
    have h2:(b::r).length=r.length+1:=rfl
    omega
   rw[e,List.eraseIdx_cons_succ,ih]
   all_goals rfl
section
variable {X:Cx} {pins:List (Addr×Obj)} {σ:St} {H:Hp} {s:Shared} {l b:Addr} {xs ys zs:List V}
theorem Inv.lset{its':List Value}{f:Array Value→Array Value}(I:Inv X pins σ H s)(hH:H l=some (.lst xs))
  (e:s.heap.get? l=some {cls:=.type "list",data:=.seq its.toArray n}) (hf:f its.toArray=its'.toArray) (hv:Vals ys its') (hz:ys.length≤sizeLine):
  Inv X pins σ (upd H l (.lst ys)) {s with heap:=s.heap.update l (Obj.mapSeq f),toks:=t'}:=by
 have q:=PySem.IsL.update e f
 rw[hf]at q
 refine I.write (x:=l) (e:=l) (by rw[hH];exact trivial) (.inl rfl) (fun b' u hb hu=>(FE s.heap (Obj.mapSeq f) (Ne.symm hb)).trans hu) ⟨_,q⟩ ?_
 exact⟨hz,its',_,hv,q⟩
theorem Inv.lnew(I:Inv X pins σ H s)(hv:Vals ys its)(hz:ys.length≤sizeLine):
  Inv X pins σ (upd H s.heap.objs.size (.lst ys)) {s with heap:=s.heap.push {cls:=.type "list",data:=.seq its.toArray},toks:=t'}:=
 I.laid (fun _ _ q=>gD _ q) (fz _) ⟨hz,its,0,hv,mf _ rfl⟩
theorem Inv.fresh(I:Inv X pins σ H s):H s.heap.objs.size=none:=I.hok.fresh (fz _)
theorem Inv.lstM(I:Inv X pins σ H s)(hH:H l=some (.lst xs)):xs.length≤sizeLine∧∃(its:List Value) (n:Nat),Vals xs its∧xs.length=its.length∧s.heap.get? l=some {cls:=.type "list",data:=.seq its.toArray n}:=by
 obtain⟨z,its,n,r,e⟩:=I.hok l _ hH
 exact⟨z,its,n,r,r.length,e⟩
end
section
variable {X:Cx}
def Gc:V→List V→Hp→VK→Prop:=fun x vs H Q=>∃l xs y,x=.ref l∧vs=[y]∧H l=some (.lst xs)∧xs.length < sizeLine∧Q .non (upd H l (.lst (xs++[y])))
theorem ni:Mi X "list.append" Gc:=by
 intro pins s σ H x vs v us Q I rx rv h
 obtain⟨l,xs,y,rfl,rfl,hH,hz,q⟩:=h
 cases rx
 obtain⟨u,rfl,ru⟩:=rv.one
 obtain⟨z,its,n,r,hl,e⟩:=I.lstM hH
 refine call_meets F.slot_list_append ⟨_,e,rfl⟩ F.entry_list_append (F.args_list_append_2 _ _) (PySem.list_append l its.toArray n u (by rw[k7];omega)) ⟨e,?_⟩
 refine⟨.non,_,I.lset (its':=its++[u]) hH e (by simp) (r.append (.cons ru .nil)) ?_,rfl,q⟩
 rw[pA,List.length_singleton]
 omega
def MO:V→List V→Hp→VK→Prop:=fun x vs H Q=>∃l xs y,x=.ref l∧vs=[]∧H l=some (.lst xs)∧xs[xs.length - 1]? =some y∧Q y (upd H l (.lst xs.dropLast))
theorem IV:Mi X "list.pop" MO:=by
 intro pins s σ H x vs v us Q I rx rv h
 obtain⟨l,xs,y,rfl,rfl,hH,hy,q⟩:=h
 cases rx
 have hus:=rv.zero
 subst hus
 obtain⟨z,its,n,r,hl,e⟩:=I.lstM hH
 obtain⟨u,hu,ru⟩:=r.get hy
 have hy':its.toArray[its.toArray.size - 1]? =some u:=by
  show its.toArray[its.length - 1]? =some u
  rw[←Array.getElem?_toList,←hl]
  exact hu
 refine call_meets F.slot_list_pop ⟨_,e,rfl⟩ F.entry_list_pop (F.args_list_pop_1 _) (MeetsSeq.list_pop_last l its.toArray n u hy' (by rw[k7];omega)) ⟨e,?_⟩
 refine⟨y,_,I.lset (its':=its.dropLast) hH e ?_ r.dropLast ?_,ru,q⟩
 ·show its.toArray.eraseIdxIfInBounds (its.toArray.size - 1)=its.dropLast.toArray
  rw[k7,List.eraseIdxIfInBounds_toArray,xX]
 ·rw[List.length_dropLast]
  omega
def Dg:V→List V→Hp→VK→Prop:=fun x vs H Q=>∃l xs,x=.ref l∧vs=[]∧H l=some (.lst xs)∧Q .non (upd H l (.lst xs.reverse))
theorem xY:Mi X "list.reverse" Dg:=by
 intro pins s σ H x vs v us Q I rx rv h
 obtain⟨l,xs,rfl,rfl,hH,q⟩:=h
 cases rx
 have hus:=rv.zero
 subst hus
 obtain⟨z,its,n,r,hl,e⟩:=I.lstM hH
 refine call_meets F.slot_list_reverse ⟨_,e,rfl⟩ F.entry_list_reverse (F.args_list_reverse_1 _) (AutoSeq1.list_reverse_list_0 l its.toArray n (by rw[k7];omega)) ⟨e,?_⟩
 refine⟨.non,_,I.lset (its':=its.reverse) hH e (by simp) r.reverse ?_,rfl,q⟩
 rw[List.length_reverse]
 omega
theorem Ge(xs:List α)(k:Nat):(List.replicate k xs).flatten.length=k*xs.length:=by
 induction k with
 |zero=>simp
 |succ k ih=>rw[List.replicate_succ,List.flatten_cons,pA,ih,Nat.succ_mul,Nat.add_comm]
end
end L2
namespace Att
open PySem PySem.W PySem.Calls PyProof.Rows
theorem oU{P:Params}:∀(ns:List Int) (vs:List Value),WellAll P h vs (ns.map WData.int)→IntsAre vs ns:=by
 intro ns
 induction ns with
 |nil=>
  intro vs w
  rw[List.map_nil]at w
  cases w
  exact .nil
 |cons n ns ih=>
  intro vs w
  rw[gR]at w
  cases w with
  |cons a b=>
   cases a
   exact .cons _ _ (ih _ b)
theorem Bx{l:OpenLaw}(hn:l.most=some n){P:Params}{args:List WData}{vals:List Value}
  (hpre:l.row.toRowW.claim.pre args=true) (hwl:WellAll P h vals args):
  ∃a vs ns,vals=[Value.ref a]∧args=[WData.list (ns.map WData.int)]∧h.get? a=some {cls:=.type "list",data:=.seq vs.toArray}∧IntsAre vs ns∧ns.length≤n:=by
 have hsh:WShape.hasAll [] args [.list .int]=true:=(pre_splitW hpre).1
 have hc:l.pre.holds [] {args:=args}=true:=(pre_splitW hpre).2
 obtain⟨d,r,rfl,h1,h2⟩:=hasAllW_cons hsh
 obtain rfl:=hasAllW_nil h2
 obtain⟨xs,rfl,h3⟩:=hasW_list h1
 obtain⟨ns,rfl⟩:=items_int h3
 have hlen:ns.length≤n:=by
  unfold OpenLaw.pre at hc
  have h4:(WTm.not (.lt (.lit (.int (n:Int))) (.len (.arg 0)))).holds [] {args:=[.list (ns.map .int)]}=true:=by
   have h4:=(holds_andW hc).1
   rw[hn]at h4
   exact h4
  have h5:=condW_of h4 (w_not (w_lt w_lit (w_len_list (w_arg rfl))))
  rw[eM]at h5
  refine Nat.le_of_not_lt fun q=>?_
  have q':(n:Int) < ((ns.length:Nat):Int):=by omega
  first
   |(rw[zz4 q']at h5;exact absurd h5 (by decide))
   |(simp at h5;omega)
 cases hwl with
 |cons w1 w2=>
  cases w2
  cases w1 with
  |list ho hall=>exact⟨_,_,ns,rfl,rfl,ho,oU ns _ hall,hlen⟩
theorem By(l:OpenLaw)(args:List WData):l.row.toRowW.claim.post args (.bool true) args=true:=
 postW_of (r:=l.row.toRowW) (X:=(true == true))
  (show WShape.has [] (.bool true) .bool=true by first |rfl |decide |simp[WShape.has,WShape.arms,WShape.armsAll])
  (show(WTm.eq .res (.lit (.bool true))).value [] {args:=args,res:=some (.bool true),after:=args}=some (.bool (true == true))from w_eq_bool (w_res rfl) w_lit) rfl
theorem vN{l:OpenLaw}{q:Program}{d:DefRec}
  (hn:l.most=some n) (hdf:d.params.defaults=[])
  (call:∀(w:World) (s₀ s₁:Shared) (mg mb:Str→Option Value) (fa:Addr) (o:Obj) (pm cd doc:Value) (a:Addr) (vs:List Value) (ns:List Int),
   Ground q loose [] XP w s₀ mg mb s₁.heap→YP w s₁.heap→
   s₁.heap.get? fa=some o→o.data=.func (docDef d.name d.params d.body d.scope pm cd doc)→s₁.heap.CodeRec cd d.name→mg d.name=some (.ref fa)→
   s₁.heap.get? a=some {cls:=.type "list",data:=.seq vs.toArray}→IntsAre vs ns→ns.length≤n→s₁.gens=#[]→
   codeAny (model l.prog w) callerA (.call (.ref fa) ⟨[.ref a],[]⟩) (fun r s'=>r=.ok (.ret (.bool true))∧OldK s₁.heap s'.heap∧s'.os=s₁.os∧AllBare s'.gens) s₁):
  WalkO q loose XP YP l.row.toRowW d [] (fun f vs=>PySem.call f vs):=by
 intro w s₀ s₁ mg mb G Y fa o pm cd doc dV kV ho hd hcd hD hmg hg args vals as hpre hlay hrd hwl hlo
 obtain rfl:dV=.none:=Dflts.none hD hdf
 obtain rfl:kV=.none:=Dflts.noKw hD
 obtain⟨a,vs,ns,rfl,rfl,hobj,hints,hlen⟩:=Bx hn hpre hwl
 refine enter_call (codeAny_mono (call w s₀ s₁ mg mb fa o pm cd doc a vs ns G Y ho (fd_plain hd) hcd hmg hobj hints hlen hg) fun r s' hq=>?_)
 obtain⟨rfl,h2,h3,h4⟩:=hq
 exact⟨.inl ⟨.bool true,.bool true,[],rfl,fun _=>rfl,.bool true,By l _,fun _=>⟨List.Pairwise.nil,fun _ hm=>(nomatch hm)⟩⟩,h2,h3,h4⟩
end Att
namespace L2
open PySem PySem.Spec PyProof.Rows
theorem iW:∀{vs:List Value} {ns:List Int},IntsAre vs ns→Vals (ns.map V.int) vs
 |_,_,.nil=>.nil
 |_,_,.cons n t h=>.cons ⟨t,rfl⟩ (iW h)
theorem ObjOk.tbl0{w:World}{H:Hp}{b:Addr}(e:h.get? b=some (tabObj #[])):ObjOk P w H h b (.tbl q):=⟨#[],e,trivial,fun pos cv z=>by cases z⟩
end L2
namespace L2
open PySem PySem.Spec PyProof.Rows
def de(s:Stmt):Arguments:=match s with
 | .FunctionDef _ a _ _ _ _ _ _ _ _=>a
 |_=>{posonlyargs:=[],args:=[],vararg:=none,kwonlyargs:=[],kw_defaults:=[],kwarg:=none,defaults:=[]}
def bE(s:Stmt):List Stmt:=match s with
 | .FunctionDef _ _ b _ _ _ _ _ _ _=>b
 |_=>[]
def ak(s:Stmt):Scope:=match s with
 | .FunctionDef _ _ _ _ _ _ sc _ _ _=>sc
 |_=>{kind:=.function,names:=[],isGenerator:=false,isCoroutine:=false}
abbrev xK:C8:=fun _ _ _ _ _ _=>False
abbrev E0:XK:=fun _ _ _=>False
theorem HK:xW xK X E0:=fun _ _ _ _ _ _ _ h=>h.elim
structure Fun (K:Frag) (x qual:Str) (st:Stmt) (f:Addr) (fd:FuncData):Prop where
 ex:∃(oc:Value) (od:Option Addr) (kV doc pm:Value) (an:Option Addr) (cdv ct:Value) (osl:Array (Option Value)),
  fd=fnOf x qual (de st) (bE st) (ak st) .none kV doc pm an cdv ct∧K.lookup f=some ⟨oc,od,.func fd,osl⟩∧codeIn K cdv qual=true
 kp:keepIn K (.ref f)=true
section
variable {P:Program} {w:World} {K:Frag} {mg:Str→Option Value} {base:Heap}
theorem Fun.ok{f:Addr}{N:List Str}(F:Fun K x qual st f fd)(S:FnScope N ps (ak st))(len:∀vs H Q E,sp vs H Q E→vs.length=ps.length)
  (hbody:∀(cdv:Value) (A:Around) (outer:List Env) (s:Shared) (H:Hp) (vs:List V) (Q:VK) (E:XK),Room k (A.deeper (envOfC qual (ak st) s.heap.objs.size f cdv))→sp vs H Q E→
   ∃t,PSs (je xK P w K mg base N qual (ak st) f cdv A outer s H E).nox (bE st) t∧t {nx:=fun _ H'=>Q .non H',rt:=Q} (gB N vs) H):FnOk P w K mg base xK (k+1) f fd ps sp:=by
 obtain⟨oc,od,kV,doc,pm,an,cdv,ct,osl,rfl,lk,hcd⟩:=F.ex
 refine Da lk hcd S len fun A outer s H vs Q E hr hsp=>?_
 obtain⟨t,h,q⟩:=hbody cdv A outer s H vs Q E hr hsp
 exact⟨t,h.nox,q⟩
theorem Fun.binds{f:Addr}(F:Fun K x qual st f fd)
  (h:∀(kV doc pm:Value) (an:Option Addr) (cdv ct:Value) (us:List Value),us.length=ps.length→bindArgs (fnOf x qual (de st) (bE st) (ak st) .none kV doc pm an cdv ct) ⟨us,[]⟩=pure (ps.zip us)):Binds K fd ps []:=by
 obtain⟨oc,od,kV,doc,pm,an,cdv,ct,osl,rfl,lk,hcd⟩:=F.ex
 exact .all (h kV doc pm an cdv ct)
theorem xZ{f:Addr}{od:Option Addr}{kV ct:Value}(l:K.lookup f=some ⟨oc,od,.func (fnOf x qual (de st) (bE st) (ak st) .none kV doc pm an cdv ct),osl⟩)
  (c:codeIn K cdv qual=true) (k:keepIn K (.ref f)=true):Fun K x qual st f (fnOf x qual (de st) (bE st) (ak st) .none kV doc pm an cdv ct):=⟨⟨oc,od,kV,doc,pm,an,cdv,ct,osl,rfl,l,c⟩,k⟩
end
def Same(H H':Hp):Prop:=∀b o,H b=some o→H' b=some o
theorem Same.refl(H:Hp):Same H H:=fun _ _ h=>h
theorem Same.trans{H H1 H2:Hp}(a:Same H H1)(b:Same H1 H2):Same H H2:=fun c o h=>b c o (a c o h)
theorem Same.free{H:Hp}(e:Same H H'){l:Addr}(h:H' l=Option.none):H l=Option.none:=by
 cases q:H l with
 |none=>rfl
 |some o=>
  rw[e l o q]at h
  cases h
theorem Same.seq{K:Frag}{H:Hp}(e:Same H H')(h:SqL K H a xs):SqL K H' a xs:=by
 rcases h with(h |⟨o,h⟩) |h
 ·exact .inl (.inl (e _ _ h))
 ·exact .inl (.inr ⟨o,e _ _ h⟩)
 ·exact .inr h
end L2
namespace NH
section
variable {α:Type} [DecidableEq α]
def Nr(r:List (α×Int))(p:α×Int):List (α×Int):=
 match r with
 |[]=>if p.2=0 then []else [p]
 |q::r'=>if q.1=p.1 then (if q.2+p.2=0 then r' else (p.1,q.2+p.2)::r')else (if p.2=0 then q::r' else p::q::r')
def stk(c:List (α×Int)):List (α×Int):=c.foldl Nr []
def ND(c:List (α×Int)):List (α×Int):=c.foldr (fun p r=>Nr r p) []
def vE(p x:α×Int):List (α×Int):=if x.1=p.1 then (if x.2+p.2=0 then []else [(p.1,x.2+p.2)])else (if p.2=0 then [x]else [p,x])
end
end NH
namespace L2
open PySem PySem.Spec PyProof.Rows
theorem gW{H:Hp}{p:Addr}(h:H p=none)(o:HO):Same H (upd H p o):=fun b u q=>by rw[aC (bD q h)];exact q
theorem Same.tup{K:Frag}{H:Hp}(e:Same H H')(h:SqT K H a xs):SqT K H' a xs:=by
 rcases h with(h |⟨o,h⟩) |h
 ·exact .inl (.inl (e _ _ h))
 ·exact .inl (.inr ⟨o,e _ _ h⟩)
 ·exact .inr h
mutual
inductive DOf (K:Frag) (H:Hp):V→PyData→Prop
 |non:DOf K H .non .none
 |bl (b:Bool):DOf K H (.bl b) (.bool b)
 |int (i:Int):DOf K H (.int i) (.int i)
 |str (x:Str):DOf K H (.str x) (.str x)
 |lst {a:Addr} {xs:List V} {ds:List PyData}:SqL K H a xs→DAll K H xs ds→DOf K H (.ref a) (.list ds)
 |tup {a:Addr} {xs:List V} {ds:List PyData}:SqT K H a xs→DAll K H xs ds→DOf K H (.ref a) (.tuple ds)
inductive DAll (K:Frag) (H:Hp):List V→List PyData→Prop
 |nil:DAll K H [] []
 |cons {x:V} {xs:List V} {d:PyData} {ds:List PyData}:DOf K H x d→DAll K H xs ds→DAll K H (x::xs) (d::ds)
end
section
variable {X:Cx} {pins:List (Addr×Obj)} {σ:St} {H:Hp} {s:Shared}
theorem DOf.reads(I:Inv X pins σ H s){x:V}{u:Value}(h:DOf X.K H x d)(r:RelV x u):∃as,Reads s.heap u d as:=DOf.rec (motive_1:=fun x d _=>∀{u:Value},RelV x u→∃as,Reads s.heap u d as) (motive_2:=fun xs ds _=>∀{us:List Value},Vals xs us→∃as,ReadsAll s.heap us ds as)
  (fun r=>by cases r;exact⟨_,Reads.none⟩) (fun b _ r=>by cases r;exact⟨_,Reads.bool b⟩) (fun i _ r=>by obtain⟨t,rfl⟩:=r;exact⟨_,Reads.int i t⟩) (fun x _ r=>by obtain⟨t,rfl⟩:=r;exact⟨_,Reads.str x t⟩)
  (fun hq _ ih _ r=>by
   cases r
   obtain⟨its,rv,⟨o,n,e,c,_,d⟩,_⟩:=I.list hq
   obtain⟨as,q⟩:=ih rv
   exact⟨_,reads_list_at e c d (by simpa using q)⟩)
  (fun hq _ ih _ r=>by
   cases r
   obtain⟨its,rv,⟨o,e,c,n,d⟩,_⟩:=I.tuple hq
   obtain⟨as,q⟩:=ih rv
   exact⟨_,reads_tuple_at e c d (by simpa using q)⟩)
  (fun r=>by cases r;exact⟨_,ReadsAll.nil⟩)
  (fun _ _ a b _ r=>by
   cases r with
   |cons r rt=>
    obtain⟨as,q⟩:=a r
    obtain⟨bs,p⟩:=b rt
    exact⟨_,ReadsAll.cons q p⟩) h r
end
def Lf(K:Frag):R2:=fun x y H Q=>∃d e,DOf K H x d∧DOf K H y e∧SeqAt.shaped d=true∧SeqAt.shaped e=true∧Q (.bl (PyData.eqv d e)) H
def Lg(K:Frag):R2:=fun x y H Q=>∃d e,DOf K H x d∧DOf K H y e∧SeqAt.shaped d=true∧SeqAt.shaped e=true∧Q (.bl (!PyData.eqv d e)) H
theorem Dh(hu:X.A.units+64 < cLine):OpR X (compareOp .Eq) (Lf X.K):=by
 intro pins s σ H x y v u Q I rx ry h
 obtain⟨d,e,hd,he,s1,s2,q⟩:=h
 obtain⟨as,ra⟩:=hd.reads I rx
 obtain⟨bs,rb⟩:=he.reads I ry
 exact eq_dataH ra rb s1 s2 hu ⟨.bl _,H,I,rfl,q⟩
theorem IW(hu:X.A.units+64 < cLine):OpR X (compareOp .NotEq) (Lg X.K):=by
 intro pins s σ H x y v u Q I rx ry h
 obtain⟨d,e,hd,he,s1,s2,q⟩:=h
 obtain⟨as,ra⟩:=hd.reads I rx
 obtain⟨bs,rb⟩:=he.reads I ry
 exact ne_dataH ra rb s1 s2 hu ⟨.bl _,H,I,rfl,q⟩
end L2
namespace L2
open PySem PySem.Spec PyProof.Rows
section
variable {prog:Program} {w:World} {A:Around} {R:Result→Shared→Prop} {s:Shared}
theorem tj{elt target:Expr}{ifs:List Expr}{pos:Pos}{it acc:Value}{env:Env}(I:Nat→Shared→Prop)
  (turn:∀n s,I n s→wpAny (model prog w) A (pyNext it) (fun r s₁=>match r with
   |none=>R (.ok .next) s₁
   |some v=>wpAny (model prog w) A (letOwnedTupleGo target it v) (fun _ s₁'=>wpAny (model prog w) A (assign target env v) (fun _ s₂=>
     wpAny (model prog w) A (forIn ifs true fun c r=>if r=true then do let ok ←isTrue c env (eval c env);pure (ForInStep.yield ok)else pure (ForInStep.yield r)) (fun ok s₃=>
      if ok=true then wpAny (model prog w) A (eval elt env) (fun x s₄=>
       wpAny (model prog w) A (call (.builtin "list.append") [acc,x]) (fun _ s₅=>∃m,m < n∧I m s₅) (fun _ _=>False) s₄) (fun _ _=>False) s₃
      else ∃m,m < n∧I m s₃) (fun _ _=>False) s₂) (fun _ _=>False) s₁') (fun _ _=>False) s₁) (fun _ _=>False) s)
  (n:Nat) (h:I n s):
  codeAny (model prog w) A (.compLoop (.ListComp elt [⟨target,iter,ifs,0⟩] scope pos) 0 it acc env) R s:=by
 refine codeAny_loop rfl I (fun n s hI=>?_) n h
 show wpAny _ A ((compTurn (.ListComp elt [⟨target,iter,ifs,0⟩] scope pos) 0 it acc env).onRaise (fun x=>do noteFrame x env;theTreesLotGoes x)) _ _ s
 refine wpAny_noted ?_
 rw[compTurn_list]
 refine zz0 (wpAny_standAt (zz0 (zz2 (turn n s hI) (fun r s₁ h₁=>?_) fun _ _ h'=>h'.elim)))
 cases r with
 |none=>exact zz1 h₁
 |some v=>
  refine zz0 (zz2 h₁ (fun _ s₁' h₁'=>?_) fun _ _ h'=>h'.elim)
  refine zz0 (zz2 h₁' (fun _ s₂ h₂=>zz0 (zz2 h₂ (fun ok s₃ h₃=>?_) fun _ _ h'=>h'.elim)) fun _ _ h'=>h'.elim)
  cases ok with
  |false=>exact zz1 ⟨rfl,h₃⟩
  |true=>
   exact zz0 (zz0 (zz2 h₃ (fun x s₄ h₄=>zz0 (zz2 h₄ (fun _ s₅ h₅=>zz1 (zz1 ⟨rfl,h₅⟩)) fun _ _ h'=>h'.elim)) fun _ _ h'=>h'.elim))
end
def Cx.comp(X:Cx)(sc:Scope)(cl:List (Str×Addr))(N:List Str)(C:Addr)(s₀:Shared)(H₀:Hp)(fp:List Addr):Cx:=
 ⟨X.prog,X.w,X.K,X.mg,X.base,X.A,N,s₀,H₀,⟨sc,C,X.env.globals,cl,X.env.qual,none,X.env.code,X.env.frame,X.env.builtins⟩,X.stack,X.stack,fp,fun _=>false,X.calm,[],fun _ _=>False⟩
def Lh(X:Cx)(ifs:List Expr)(t:TT):Prop:=
 ∀(pins:List (Addr×Obj)) (s:Shared) (σ:St) (H:Hp) (Q:Bool→Hp→Prop),Inv X pins σ H s→t σ H Q→
  wpAny (model X.prog X.w) X.A (forIn ifs true fun c r=>if r=true then do let ok ←isTrue c X.env (eval c X.env);pure (ForInStep.yield ok)else pure (ForInStep.yield r)) (TP X pins σ Q) X.xe s
def MP:TT:=fun _ H Q=>Q true H
theorem Ab:Lh X [] MP:=fun _ _ _ H _ I h=>wpAny_tests_nil ⟨H,I,h⟩
theorem Gf{c:Expr}{t:TT}(h:PT X c t):Lh X [c] t:=fun pins s σ H Q I q=>wpAny_tests_one (h pins s σ H Q I q)
def slots(js:List (Option Nat))(σ:St):St:=js.map fun j=>j.bind fun j=>(σ[j]?).join
def Ac(js:List (Option Nat))(wi:TI)(g:TG)(tt:TT)(te:TE):TE:=fun σ H Q=>wi σ H fun J H1=>∀l,H1 l=none→∃W:Nat→Nat→St→Hp→Prop,(∃m,W 0 m (slots js σ) (upd H1 l (.lst [])))∧
 ∀i m σ' H',W i m σ' H'→(J.stop i H'∧Q (.ref l) H')∨(J.go i H'∧∃N:St→Hp→Prop,(∀σ' H',N σ' H'→∃m',m' < m∧W (i+1) m' σ' H')∧∀x H2,J.yld i H' x H2→g x σ' H2 fun σ3 H3=>tt σ3 H3 fun b H4=>
  if b=true then te σ3 H4 fun y H5=>∃ys,H5 l=some (.lst ys)∧ys.length < sizeLine∧N σ3 (upd H5 l (.lst (ys++[y])))else N σ3 H4)
section
variable {X:Cx} {elt target iter:Expr} {ifs:List Expr} {scope sc:Scope} {cl:List (Str×Addr)} {N:List Str} {pos:Pos} {wi:TI} {g:TG} {tt:TT} {te:TE} {js:List (Option Nat)}
structure CompOk (X:Cx) (scope sc:Scope) (cl:List (Str×Addr)) (N:List Str) (js:List (Option Nat)):Prop where
 clos:closureFor scope X.env=pure cl
 rel:relabel scope X.env=sc
 nocell:∀y∈scope.names,y.2≠ .cell
 kind:scope.kind=.function
 names:∀y∈scope.names,y.2=.local→scope.names.lookup y.1=some .local
 same:∀x c,cl.lookup x=some c→X.env.cells.lookup x=some c
 has:∀x,(sc.names.lookup x=some .cell∨sc.names.lookup x=some .free)→∃c,cl.lookup x=some c
 len:js.length=N.length
 from_:∀(i j:Nat),js[i]? =some (some j)→∃x,N[i]? =some x∧X.N[j]? =some x∧(sc.names.lookup x=some .cell∨sc.names.lookup x=some .free)∧(X.env.kindOf x=some .cell∨X.env.kindOf x=some .free)
theorem vO{use:Option (Value→Sem Unit)}{Qv:Value→Shared→Prop}(K:CompOk X scope sc cl N js)(hc:X.calm=true)(hi:PI X target iter wi)
  (hgg:∀C s₀ H₀ fp,PG (X.comp sc cl N C s₀ H₀ fp) target g) (htt:∀C s₀ H₀ fp,Lh (X.comp sc cl N C s₀ H₀ fp) ifs tt) (hee:∀C s₀ H₀ fp,PE (X.comp sc cl N C s₀ H₀ fp) elt te)
  (hs:∀x,foldedSetIterable iter X.env x=pure x) (pins:List (Addr×Obj)) (s:Shared) (σ:St) (H:Hp) (Q:VK) (I:Inv X pins σ H s) (h:Ac js wi g tt te σ H Q)
  (hend:∀(D C:Addr) (H4:Hp) (s5:Shared) (m:Str→Option Value),Inv X pins σ H4 s5→s5.heap.Ns C m→H4 C=none→C≠X.env.locals→C∉X.fs→X.s₀.heap.objs.size≤C→(∀x c,X.env.cells.lookup x=some c→c≠C)→(∀p∈X.pn++pins,p.1≠C)→Q (.ref D) H4→
   compPost (model X.prog X.w) X.A X.xe use Qv (.ref D) C (.ok .next) s5):
  wpAny (model X.prog X.w) X.A (comprehension (.ListComp elt [⟨target,iter,ifs,0⟩] scope pos) scope X.env (firstIterPos [⟨target,iter,ifs,0⟩] pos) (newList []) false (firstIter [⟨target,iter,ifs,0⟩] X.env) use) Qv X.xe s:=by
 refine wpAny_comprehension_free (use:=use) rfl hs K.clos K.kind K.names (dw (hi pins s σ H _ I h) fun v s1 h1=>dw h1 fun itv s2 h2=>?_)
 obtain⟨it,fp,tn,J,H2,e,I2,T,st2,f2,R⟩:=h2
 subst e
 refine wpAny_newObj_type (wpAny_newFunctionEnv K.nocell (by intro y hy;simp at hy) (fun h₁ hns₁ hsb₁=>?_) K.kind)
 dsimp only at hns₁ hsb₁ ⊢
 have I3:Inv X pins σ (upd H2 s2.heap.objs.size (.lst [])) {s2 with heap:=s2.heap.push {cls:=.type "list",dict:=none,data:=.seq ([]:List Value).toArray}}:=
  I2.lnew (t':=s2.toks) (its:=[]) .nil (zz9 _)
 obtain⟨W,⟨m0,w0⟩,turn⟩:=R s2.heap.objs.size (I2.hok.fresh (fz _))
 generalize hP:s2.heap.push {cls:=.type "list",dict:=none,data:=.seq ([]:List Value).toArray}=h3 at hns₁ hsb₁ I3 ⊢
 generalize hD:s2.heap.objs.size=D at w0 turn I3 ⊢
 have hsz3:h3.objs.size=D+1:=by rw[←hP,zzD,hD]
 have old3:∀b o,s2.heap.get? b=some o→h3.get? b=some o:=fun b o e=>by rw[←hP];exact gD _ e
 have old:∀b o,h3.get? b=some o→h₁.get? b=some o:=fun b o e=>hsb₁.extBut b o (gS (fP e)) (gD _ e)
 have fpD:∀b∈fp,b < D:=fun b hb=>by
  obtain⟨o,e,_⟩:=T.obj _ _ st2 b hb
  rw[←hD];exact fP e
 have frD:∀b∈fp,(upd H2 D (.lst [])) b=none:=fun b hb=>by rw[aC (gS (fpD b hb))];exact(f2 b hb).1
 have f3:∀b∈fp,oS X pins (upd H2 D (.lst [])) b:=fun b hb=>⟨frD b hb,(f2 b hb).2⟩
 have Hfresh:∀a,h3.objs.size≤a→(upd H2 D (.lst [])) a=none:=fun a ha=>I3.hok.fresh ha
 have cellC:∀x c,X.env.cells.lookup x=some c→c < h3.objs.size:=fun x c e=>by
  obtain⟨v,q⟩:=I3.cell x c e
  exact q.lt
 have YOk:(X.comp sc cl N h3.objs.size {s2 with heap:=h3} (upd H2 D (.lst [])) fp).Ok:=by
  refine⟨I3.ok.mod,?_,I3.ok.glob,I3.ok.blt,fz _,fun x y c e1 e2=>I3.ok.inj x y c (K.same x c e1) (K.same y c e2),fun x hx=>K.has x hx,fun x c hf _=>absurd hf (by intro z;cases z),I3.ok.hd,I3.ok.frames,.inl rfl,fun b hb=>⟨?_,fun x c e=>(f2 b hb).2.2.2.2.1 x c (K.same x c e)⟩,
   I3.bs,jP I3.ok.bsz I3.sz,fun b o e hb=>?_,fun b hb hm=>?_,I3.stack,I3.stkFree,I3.tab⟩
  ·rw[←K.rel];exact K.kind
  ·exact gS (by rw[hsz3];exact xJ (fpD b hb))
  ·rcases(f2 b hb).2.2.2.1 with z |z
   ·exact I3.ok.noex b o e z
   ·exact absurd (ma (fP (I3.ok.bs b o e).1) z) (Nat.lt_irrefl _)
  ·rcases Zag.mp (I3.stkSub b hm)with z |z
   ·exact(f2 b hb).2.1 z
   ·exact(f2 b hb).2.2.1 z
 have IY:Inv (X.comp sc cl N h3.objs.size {s2 with heap:=h3} (upd H2 D (.lst [])) fp) [] (slots js σ) (upd H2 D (.lst [])) {s2 with heap:=h₁,toks:=s2.toks+([]:List (Str×Value)).length}:=by
  refine⟨YOk,rfl,I3.bare,Un.kept old,⟨_,hns₁,fun i x v e1 e2 e3=>?_⟩,fun x c e=>?_,Hfresh _ (fz _),fun x c e=>I3.freeC x c (K.same x c e),fun p hp=>absurd (show p∈([]:List (Addr×Obj))from hp) (by simp),I3.hok.kept old,?_⟩
  ·unfold slots at e2
   rw[zP]at e2
   cases ej:js[i]? with
   |none=>rw[ej]at e2;cases e2
   |some jo=>
    rw[ej]at e2
    cases jo with
    |none=>cases e2
    |some j=>
     obtain⟨y,n1,n2,k1,k2⟩:=K.from_ i j ej
     have exy:y=x:=Option.some.inj (n1.symm.trans e1)
     subst exy
     have e2':(σ[j]?).join=some v:=Option.some.inj e2
     have e4:σ[j]? =some (some v):=by
      cases es:σ[j]? with
      |none=>rw[es]at e2';cases e2'
      |some w=>rw[es]at e2';exact congrArg some e2'
     obtain⟨m,_,hl⟩:=I3.loc
     obtain⟨u,ru,lk⟩:=hl j y v n2 e4 (by
      rcases k2 with z |z
      ·exact .inr (.inl z)
      ·exact .inr (.inr z))
     refine⟨u,ru,.inr ⟨k1,?_⟩⟩
     obtain⟨c,hcl⟩:=K.has y k1
     refine⟨c,hcl,?_⟩
     rcases lk with⟨z,_⟩ |⟨_,c',e5,ic⟩
     ·rcases k2 with q |q
      ·rw[q]at z;cases z
      ·rw[q]at z;cases z
     ·have:c'=c:=Option.some.inj (e5.symm.trans (K.same y c hcl))
      subst this
      obtain⟨o,ho,hd⟩:=ic
      exact⟨o,old _ _ ho,hd⟩
  ·obtain⟨v,o,ho,hd⟩:=I3.cell x c (K.same x c e)
   exact⟨v,o,old _ _ ho,hd⟩
  ·unfold slots;rw[eM];exact K.len
 have loop:∀s₃:Shared,s₃={s2 with heap:=h₁,toks:=s2.toks+([]:List (Str×Value)).length}→
   codeAny (model X.prog X.w) X.A (.compLoop (.ListComp elt [⟨target,iter,ifs,0⟩] scope pos) 0 (.ref it) (.ref D) (X.comp sc cl N h3.objs.size {s2 with heap:=h3} (upd H2 D (.lst [])) fp).env)
    (compPost (model X.prog X.w) X.A X.xe use Qv (.ref D) h3.objs.size) s₃:=by
  rintro s₃ rfl
  refine tj (fun n s'=>∃i σ' H',Inv (X.comp sc cl N h3.objs.size {s2 with heap:=h3} (upd H2 D (.lst [])) fp) [] σ' H' s'∧tn i s'.heap∧(∀b∈fp,H' b=none)∧W i n σ' H') ?_ m0
   ⟨0,_,_,IY,T.keep _ _ _ st2 (fun b hb o e=>old b o (old3 b o e)),frD,w0⟩
  rintro n s4 ⟨i,σ4,H4,I4,st4,fr4,w4⟩
  have ff:∀{H':Hp},(∀b∈fp,H' b=none)→∀b∈fp,oS (X.comp sc cl N h3.objs.size {s2 with heap:=h3} (upd H2 D (.lst [])) fp) [] H' b:=fun hn b hb=>
   ⟨hn b hb,(YOk.exf b hb).1,YOk.exfs b hb,.inl hb,(YOk.exf b hb).2,fun p hp=>absurd (show p∈([]:List (Addr×Obj))from hp) (by simp)⟩
  have hg:=hgg h3.objs.size {s2 with heap:=h3} (upd H2 D (.lst [])) fp
  have ht:=htt h3.objs.size {s2 with heap:=h3} (upd H2 D (.lst [])) fp
  have he:=hee h3.objs.size {s2 with heap:=h3} (upd H2 D (.lst [])) fp
  rcases turn i n σ4 H4 w4 with⟨stop,qn⟩ |⟨go,Nx,hN,step⟩
  ·refine dw (T.done (X.comp sc cl N h3.objs.size {s2 with heap:=h3} (upd H2 D (.lst [])) fp) rfl rfl rfl hc i [] s4 σ4 H4 _ I4 (ff fr4) st4 stop) fun r s5 ⟨hr,I5⟩=>?_
   subst hr
   obtain⟨m,hn,_⟩:=I5.loc
   have IX:Inv X pins σ H4 s5:=I3.call' (ch:=fp) I5.os I5.base I5.hok I5.bare fun b hb=>⟨(f3 b hb).2.2.2.1,(f3 b hb).2.1,(f3 b hb).2.2.2.2.1,(f3 b hb).2.2.2.2.2⟩
   exact hend D h3.objs.size H4 s5 m IX hn I5.free (Ne.symm (gS I3.lt)) (I3.nofs (fz _)) I3.sz (fun x c e=>gS (cellC x c e)) (fun p hp=>gS (fP (I3.pin p hp).1)) qn
  ·refine dw (T.item (X.comp sc cl N h3.objs.size {s2 with heap:=h3} (upd H2 D (.lst [])) fp) rfl rfl rfl hc i [] s4 σ4 H4 _ I4 (ff fr4) st4 go) fun r s5 ⟨u,hr,h5⟩=>?_
   subst hr
   refine dw h5 fun _ s6 ⟨x,H6,I6,r6,y6,st6,fr6⟩=>?_
   have I6':=I6.pinned (ff fr6) (T.obj _ _ st6)
   have back:∀{σ7:St} {H7:Hp} {s7:Shared},Inv (X.comp sc cl N h3.objs.size {s2 with heap:=h3} (upd H2 D (.lst [])) fp) ([]++m_ fp s6.heap) σ7 H7 s7→
     Inv (X.comp sc cl N h3.objs.size {s2 with heap:=h3} (upd H2 D (.lst [])) fp) [] σ7 H7 s7∧tn (i+1) s7.heap∧∀b∈fp,H7 b=none:=fun {σ7 H7 s7} I7=>
    ⟨I7.unpinned,T.keep _ _ _ st6 fun b hb o e=>(I7.pin (b,o) (m9 _ (m9 _ (fQ hb e)))).1,fun b hb=>by
     obtain⟨o,e,d⟩:=T.obj _ _ st6 b hb
     exact(I7.pin (b,o) (m9 _ (m9 _ (fQ hb e)))).2.1⟩
   refine dw (hg _ s6 σ4 H6 x u _ I6' r6 (step x H6 y6)) fun _ s7 ⟨σ7,H7,I7,q7⟩=>?_
   refine dw (ht _ s7 σ7 H7 _ I7 q7) fun b s8 ⟨H8,I8,q8⟩=>?_
   cases b with
   |false=>
    obtain⟨m',hm,w8⟩:=hN σ7 H8 q8
    obtain⟨J1,J2,J3⟩:=back I8
    exact⟨m',hm,i+1,σ7,H8,J1,J2,J3,w8⟩
   |true=>
    refine dw (he _ s8 σ7 H8 _ I8 q8) fun yv s9 ⟨y,H9,I9,r9,ys,hl,hz,n9⟩=>?_
    obtain⟨m',hm,w9⟩:=hN _ _ n9
    refine dw (ni _ s9 σ7 H9 (.ref D) [y] (.ref D) [yv] (fun v H'=>v=.non∧H'=upd H9 D (.lst (ys++[y]))) I9 rfl (.cons r9 .nil) ⟨D,ys,y,rfl,rfl,hl,hz,rfl,rfl⟩) fun _ sA ⟨_,HA,IA,_,_,eA⟩=>?_
    subst eA
    obtain⟨J1,J2,J3⟩:=back IA
    exact⟨m',hm,i+1,σ7,_,J1,J2,J3,w9⟩
 rw[K.rel]
 exact codeAny_compStart_list (loop _ rfl) (T.self _ 0 _ _ _ (T.keep _ _ _ st2 (fun b hb o e=>old b o (old3 b o e))) (loop _ rfl))
theorem Ad(K:CompOk X scope sc cl N js)(hc:X.calm=true)(hi:PI X target iter wi)
  (hgg:∀C s₀ H₀ fp,PG (X.comp sc cl N C s₀ H₀ fp) target g) (htt:∀C s₀ H₀ fp,Lh (X.comp sc cl N C s₀ H₀ fp) ifs tt) (hee:∀C s₀ H₀ fp,PE (X.comp sc cl N C s₀ H₀ fp) elt te)
  (hs:∀x,foldedSetIterable iter X.env x=pure x:=by intro _;rfl):PE X (.ListComp elt [⟨target,iter,ifs,0⟩] scope pos) (Ac js wi g tt te):=by
 intro pins s σ H Q I h
 rw[eval_ListComp]
 refine vO (use:=none) K hc hi hgg htt hee hs pins s σ H Q I h fun D C H4 s5 m IX hn fC nL _ sz nc np qn=>?_
 exact⟨m,hn,fun h' hs'=>⟨.ref D,H4,IX.turned (t':=s5.toks) (it:=C) (fun b o hb e=>(hs'.2 b hb).trans e) fC nL (.inr sz) nc np,rfl,qn⟩⟩
theorem Gg{px spos:Pos}{gx:TG}(K:CompOk X scope sc cl N js)(hc:X.calm=true)(hx:PG X (.Name x px) gx)(hi:PI X target iter wi)
  (hgg:∀C s₀ H₀ fp,PG (X.comp sc cl N C s₀ H₀ fp) target g) (htt:∀C s₀ H₀ fp,Lh (X.comp sc cl N C s₀ H₀ fp) ifs tt) (hee:∀C s₀ H₀ fp,PE (X.comp sc cl N C s₀ H₀ fp) elt te)
  (hs:∀x,foldedSetIterable iter X.env x=pure x:=by intro _;rfl) (hsw:swapsWith (.ListComp elt [⟨target,iter,ifs,0⟩] scope pos) (some (.Name x px)) spos.line X.env=pure true:=by rfl):
  PS X (.Assign [.Name x px] (.ListComp elt [⟨target,iter,ifs,0⟩] scope pos) spos) (KN (Ac js wi g tt te) gx):=by
 intro pins s σ H D I h
 rw[exec_Assign_Name_used _ _ _ _ hsw]
 refine zz0 (wpAny_standAt (zz0 ?_))
 show wpAny _ _ (comprehension (.ListComp elt [⟨target,iter,ifs,0⟩] scope pos) scope X.env (firstIterPos [⟨target,iter,ifs,0⟩] pos) (newList []) false (firstIter [⟨target,iter,ifs,0⟩] X.env) (some (assign (.Name x px) X.env)) >>= fun _=>pure ()) _ _ _
 refine zz0 (zz2 (vO (use:=some (assign (.Name x px) X.env)) (Qv:=fun _ s'=>∃σ' H',Inv X pins σ' H' s'∧D.nx σ' H') K hc hi hgg htt hee hs pins s σ H _ I h fun Dd C H4 s5 m IX hn fC nL nF sz nc np qn=>?_) (fun _ s' ⟨σ',H',I',q'⟩=>zz1 (zz1 ⟨σ',H',I',q'⟩)) fun _ _ e=>e)
 obtain⟨o,es,ep,ho,hd,r⟩:=hn
 have IP:Inv X ((C,o)::pins) σ H4 s5:=IX.pins_of fun p hp=>(Zag.mp hp).elim (fun z=>by subst z;exact⟨ho,fC,nL,nF,fun v z=>by rw[hd]at z;cases z⟩) fun z=>IX.pin p (m9 _ z)
 refine zz2 (hx ((C,o)::pins) s5 σ H4 (.ref Dd) (.ref Dd) D.nx IP rfl qn) (fun _ s6 ⟨σ6,H6,I6,q6⟩=>?_) fun _ _ e=>e
 obtain⟨p1,p2,_⟩:=I6.pin (C,o) (m9 _ (gE ..))
 have I7:Inv X pins σ6 H6 s6:=I6.pins_of fun p hp=>I6.pin p (m9 _ (gQ _ hp))
 exact⟨m,⟨o,es,ep,p1,hd,r⟩,fun h' hs'=>⟨σ6,H6,I7.turned (t':=s6.toks) (it:=C) (fun b o hb e=>(hs'.2 b hb).trans e) p2 nL (.inr sz) nc np,q6⟩⟩
end
end L2
namespace L2
open PySem PySem.Spec PyProof.Rows
theorem cy{N:List Str}(hf:∀x∈scope.names,x.2≠ .free:=by decide+kernel)(hcell:∀x∈scope.names,x.2≠ .cell:=by decide+kernel)
  (hk:scope.kind=.function:=by rfl) (hn:∀y∈scope.names,y.2=.local→scope.names.lookup y.1=some .local:=by decide+kernel) (hl:js.length=N.length:=by rfl) (hj:∀j∈js,j=none:=by decide):CompOk X scope scope [] N js where
 clos:=closureFor_none hf
 rel:=by
  unfold relabel
  have e:(scope.names.map fun(x:Str×NameKind)=>match x with |(n,k)=>if (k ==.free&&X.env.scope.kind ==.function&&X.env.kindOf n == some .cell)then (n,NameKind.cell)else (n,k))=scope.names:=by
   refine map_eq_self fun x hx=>?_
   obtain⟨n,k⟩:=x
   have:(k == NameKind.free)=false:=by simpa using hf _ hx
   simp[this]
  rw[e]
 nocell:=hcell
 kind:=hk
 names:=hn
 same:=fun x c e=>by simp at e
 has:=fun x h=>by
  rcases h with h |h
  ·exact absurd rfl (hcell _ (PySem.mem_of_lookup h))
  ·exact absurd rfl (hf _ (PySem.mem_of_lookup h))
 len:=hl
 from_:=fun i j h=>by
  have:=hj _ (List.mem_of_getElem? h)
  cases this
structure Own (P:Program) (w:World) (K:Frag) (mg:Str→Option Value) (base:Heap) (k:Nat) (x:Str) (ps:List Str) (sp:Sp):Prop where
 ex:∃(f:Addr) (fd:FuncData),FnOk P w K mg base xK k f fd ps sp∧Binds K fd ps []∧mg x=some (.ref f)∧keepIn K (.ref f)=true
theorem IZ{pos:Pos}{es:List Expr}{t:TA}(D:Own X.prog X.w X.K X.mg X.base k x ps sp)(hr:Room k X.A)(hg:Gl X x)(ha:PA X (e::es) t)
  (hdb:(x == ("__debug__":Str))=false:=by decide) (he:starEach (e::es) X.env=(false,eval e X.env)::starEach es X.env:=by rfl) (hpl:(backTo pos (starEach es X.env)).any (·.1)=false:=by rfl):
  PE X (.Call (.Name x p) (e::es) [] pos) (C9 sp [] E0 t):=by
 obtain⟨f,fd,F,b,m,kp⟩:=D.ex
 exact FZ F hr hg m kp b .nil HK ha hdb he hpl
structure Def (K:Frag) (mg:Str→Option Value) (x:Str) (st:Stmt) (ps:List Str):Prop where
 ex:∃(f:Addr) (fd:FuncData),Fun K x x st f fd∧mg x=some (.ref f)∧Binds K fd ps []
theorem Def.own{w:World}{K:Frag}{mg:Str→Option Value}{base:Heap}{N:List Str}(D:Def K mg x st ps)(S:FnScope N ps (ak st))
  (len:∀vs H Q E,sp vs H Q E→vs.length=ps.length)
  (hbody:∀(f:Addr) (cdv:Value) (A:Around) (outer:List Env) (s:Shared) (H:Hp) (vs:List V) (Q:VK) (E:XK),Room k (A.deeper (envOfC x (ak st) s.heap.objs.size f cdv))→sp vs H Q E→
   ∃t,PSs (je xK P w K mg base N x (ak st) f cdv A outer s H E).nox (bE st) t∧t {nx:=fun _ H'=>Q .non H',rt:=Q} (gB N vs) H):Own P w K mg base (k+1) x ps sp:=by
 obtain⟨f,fd,F,m,b⟩:=D.ex
 exact⟨f,fd,F.ok S len (hbody f),b,m,F.kp⟩
theorem I_{K:Frag}{mg:Str→Option Value}{f:Addr}{od:Option Addr}{kV ct:Value}(X:K.In h)(G:h.Ns mainGlobals mg)
  (a:nsIn K mainGlobals x=some (some (.ref f))) (l:K.lookup f=some ⟨oc,od,.func (fnOf x x (de st) (bE st) (ak st) .none kV doc pm an cdv ct),osl⟩)
  (c:codeIn K cdv x=true) (k:keepIn K (.ref f)=true)
  (b:∀(kV doc pm:Value) (an:Option Addr) (cdv ct:Value) (us:List Value),us.length=ps.length→bindArgs (fnOf x x (de st) (bE st) (ak st) .none kV doc pm an cdv ct) ⟨us,[]⟩=pure (ps.zip us)):Def K mg x st ps:=
 ⟨f,_,xZ l c k,mg_of X G a,(xZ (st:=st) l c k).binds b⟩
end L2
namespace Nh
open PySem L2
section
variable {α β:Type} {F:α→β→Prop}
theorem kH:∀{a:List α} {b:List β} {c:List α} {d:List β},Paired F a b→Paired F c d→Paired F (a++c) (b++d)
 |_,_,_,_,.nil,s=>s
 |_,_,_,_,.cons r t,s=>.cons r (kH t s)
theorem Ae:∀{a:List α} {b:List β} (n:Nat),Paired F a b→Paired F (a.take n) (b.take n)
 |_,_,0,_=>.nil
 |_,_,_+1,.nil=>.nil
 |_,_,n+1,.cons r t=>.cons r (Ae n t)
theorem Af:∀{a:List α} {b:List β} (n:Nat),Paired F a b→Paired F (a.drop n) (b.drop n)
 |_,_,0,r=>r
 |_,_,_+1,.nil=>.nil
 |_,_,n+1,.cons _ t=>Af n t
theorem ly:∀{a:List α} {b:List β},Paired F a b→Paired F a.reverse b.reverse
 |_,_,.nil=>.nil
 |_,_,.cons r t=>by
  rw[List.reverse_cons,List.reverse_cons]
  exact kH (ly t) (.cons r .nil)
theorem Ag:∀{a:List α} {b:List β} {i:Nat} {y:β},Paired F a b→b[i]? =some y→∃x,a[i]? =some x∧F x y
 |_,_,_,_,.nil,e=>by simp at e
 |_,_,0,_,.cons r _,e=>by simp at e;subst e;exact⟨_,rfl,r⟩
 |_,_,i+1,x,.cons _ t,e=>by
  obtain⟨u,h1,h2⟩:=Ag (i:=i) (y:=x) t (by simpa using e)
  exact⟨u,by simpa using h1,h2⟩
theorem Di{a:List α}{b:List β}(h:Paired F a b):∀k:Nat,Paired F (List.replicate k a).flatten (List.replicate k b).flatten
 | 0=>.nil
 |k+1=>by
  rw[List.replicate_succ,List.replicate_succ,List.flatten_cons,List.flatten_cons]
  exact kH h (Di h k)
end
end Nh
namespace PL
open PySem PySem.Spec PyProof.Rows L2 Nh
def MQ:jS→PyData
 |.inl i=>.int i
 |.inr x=>.str x
def fM(a C:Addr):Heap→Prop:=fun h=>∃o,h.get? a=some o∧o.cls=.ref C
mutual
inductive Rp (K:Frag) (H:Hp):V→PyData→Prop
 |non:Rp K H .non .none
 |bl (b:Bool):Rp K H (.bl b) (.bool b)
 |int (i:Int):Rp K H (.int i) (.int i)
 |str (x:Str):Rp K H (.str x) (.str x)
 |lst {a:Addr} {xs:List V} {ds:List PyData}:SqL K H a xs→RpA K H xs ds→Rp K H (.ref a) (.list ds)
 |tup {a:Addr} {xs:List V} {ds:List PyData}:SqT K H a xs→RpA K H xs ds→Rp K H (.ref a) (.tuple ds)
 |dct {a:Addr} {us:List (jS×V)} {kvs:List (PyData×PyData)}:Rd H a (.dK us)→RpK K H us kvs→Rp K H (.ref a) (.dict kvs)
 |exc {a C:Addr} {n:Str} {o:Obj}:H a=some (.frz o (.ext (fM a C)))→nsIn K mainGlobals n=some (some (.ref C))→Rp K H (.ref a) (.dict [(.none,.str n)])
 |fnc {a:Addr} {n:Str}:nsIn K mainGlobals n=some (some (.ref a))→Rp K H (.ref a) (.dict [(.none,.none),(.none,.str n)])
inductive RpA (K:Frag) (H:Hp):List V→List PyData→Prop
 |nil:RpA K H [] []
 |cons {x:V} {xs:List V} {d:PyData} {ds:List PyData}:Rp K H x d→RpA K H xs ds→RpA K H (x::xs) (d::ds)
inductive RpK (K:Frag) (H:Hp):List (jS×V)→List (PyData×PyData)→Prop
 |nil:RpK K H [] []
 |cons {k:jS} {x:V} {us:List (jS×V)} {d:PyData} {kvs:List (PyData×PyData)}:Rp K H x d→RpK K H us kvs→RpK K H ((k,x)::us) ((MQ k,d)::kvs)
end
mutual
def fL:PyData→Bool
 |.none=>true
 |.bool _=>true
 |.int _=>true
 |.str _=>true
 |.list _=>false
 |.tuple xs=>bL xs
 |.dict _=>false
def bL:List PyData→Bool
 |[]=>true
 |d::ds=>fL d&&bL ds
end
def HL:HO→Bool
 |.tup _=>true
 |.frz _ _=>true
 |_=>false
def tups(H:Hp):Hp:=fun b=>(H b).filter HL
theorem nj(H:Hp):Same (tups H) H:=fun b o h=>(Option.filter_eq_some_iff.mp h).1
theorem mi{H:Hp}{b:Addr}{o:HO}(h:H b=some o)(c:HL o=true):tups H b=some o:=Option.filter_eq_some_iff.mpr ⟨h,c⟩
theorem pG{H:Hp}{l:Addr}{ys:List V}(h:H l=some (.lst xs)):tups (upd H l (.lst ys))=tups H:=by
 funext b
 unfold tups
 by_cases e:b=l
 ·subst e
  rw[upd_same,h]
  rfl
 ·rw[aC e]
section
variable {K:Frag} {H H':Hp}
theorem vP(h:SqT K H a xs):SqT K (tups H) a xs:=by
 rcases h with(h |⟨o,h⟩) |h
 ·exact .inl (.inl (mi h rfl))
 ·exact .inl (.inr ⟨o,mi h rfl⟩)
 ·exact .inr h
theorem tm{u:HO}(s:Same H H')(h:Rd H a u):Rd H' a u:=by
 rcases h with h |⟨o,h⟩
 ·exact .inl (s _ _ h)
 ·exact .inr ⟨o,s _ _ h⟩
theorem Rp.same(s:Same H H')(h:Rp K H v d):Rp K H' v d:=Rp.rec (motive_1:=fun v d _=>Rp K H' v d) (motive_2:=fun v d _=>RpA K H' v d) (motive_3:=fun v d _=>RpK K H' v d) .non .bl .int .str (fun h _ r=>.lst (s.seq h) r) (fun h _ r=>.tup (s.tup h) r) (fun h _ r=>.dct (tm s h) r) (fun h r=>.exc (s _ _ h) r) .fnc .nil (fun _ _ a b=>.cons a b) .nil (fun _ _ a b=>.cons a b) h
theorem RpA.same(s:Same H H'){v:List V}{d:List PyData}(h:RpA K H v d):RpA K H' v d:=RpA.rec (motive_1:=fun v d _=>Rp K H' v d) (motive_2:=fun v d _=>RpA K H' v d) (motive_3:=fun v d _=>RpK K H' v d) .non .bl .int .str (fun h _ r=>.lst (s.seq h) r) (fun h _ r=>.tup (s.tup h) r) (fun h _ r=>.dct (tm s h) r) (fun h r=>.exc (s _ _ h) r) .fnc .nil (fun _ _ a b=>.cons a b) .nil (fun _ _ a b=>.cons a b) h
theorem RpK.same(s:Same H H'){v:List (jS×V)}{d:List (PyData×PyData)}(h:RpK K H v d):RpK K H' v d:=RpK.rec (motive_1:=fun v d _=>Rp K H' v d) (motive_2:=fun v d _=>RpA K H' v d) (motive_3:=fun v d _=>RpK K H' v d) .non .bl .int .str (fun h _ r=>.lst (s.seq h) r) (fun h _ r=>.tup (s.tup h) r) (fun h _ r=>.dct (tm s h) r) (fun h r=>.exc (s _ _ h) r) .fnc .nil (fun _ _ a b=>.cons a b) .nil (fun _ _ a b=>.cons a b) h
theorem Rp.cold(h:Rp K H v d)(e:fL d=true):Rp K (tups H) v d:=Rp.rec (motive_1:=fun v d _=>fL d=true→Rp K (tups H) v d) (motive_2:=fun v d _=>bL d=true→RpA K (tups H) v d) (motive_3:=fun _ _ _=>True) (fun _=>.non) (fun b _=>.bl b) (fun i _=>.int i) (fun x _=>.str x) (fun _ _ _ e=>nomatch e) (fun h _ r e=>.tup (vP h) (r e)) (fun _ _ _ e=>nomatch e) (fun _ _ e=>nomatch e) (fun _ e=>nomatch e) (fun _=>.nil) (fun _ _ a b e=>.cons (a (Bool.and_eq_true_iff.mp e).1) (b (Bool.and_eq_true_iff.mp e).2)) trivial (fun _ _ _ _=>trivial) h e
theorem RpA.cold{v:List V}{d:List PyData}(h:RpA K H v d)(e:bL d=true):RpA K (tups H) v d:=RpA.rec (motive_1:=fun v d _=>fL d=true→Rp K (tups H) v d) (motive_2:=fun v d _=>bL d=true→RpA K (tups H) v d) (motive_3:=fun _ _ _=>True) (fun _=>.non) (fun b _=>.bl b) (fun i _=>.int i) (fun x _=>.str x) (fun _ _ _ e=>nomatch e) (fun h _ r e=>.tup (vP h) (r e)) (fun _ _ _ e=>nomatch e) (fun _ _ e=>nomatch e) (fun _ e=>nomatch e) (fun _=>.nil) (fun _ _ a b e=>.cons (a (Bool.and_eq_true_iff.mp e).1) (b (Bool.and_eq_true_iff.mp e).2)) trivial (fun _ _ _ _=>trivial) h e
theorem Rp.dof'(h:Rp K H v d)(e:d.canLay0=true):DOf K H v d:=Rp.rec (motive_1:=fun v d _=>d.canLay0=true→DOf K H v d) (motive_2:=fun v d _=>PyData.canLayAll0 d=true→DAll K H v d) (motive_3:=fun _ _ _=>True) (fun _=>.non) (fun b _=>.bl b) (fun i _=>.int i) (fun x _=>.str x) (fun h _ r e=>.lst h (r e)) (fun h _ r e=>.tup h (r e)) (fun _ _ _ e=>nomatch e) (fun _ _ e=>nomatch e) (fun _ e=>nomatch e) (fun _=>.nil) (fun _ _ a b e=>.cons (a (Bool.and_eq_true_iff.mp e).1) (b (Bool.and_eq_true_iff.mp e).2)) trivial (fun _ _ _ _=>trivial) h e
theorem Rp.dof(h:Rp K H v d)(e:SeqAt.shaped d=true):DOf K H v d:=h.dof' (SeqAt.canLay_of_shaped e)
theorem RpA.pr(h:RpA K H vs ds):Paired (Rp K H) vs ds:=RpA.rec (motive_1:=fun _ _ _=>True) (motive_2:=fun v d _=>Paired (Rp K H) v d) (motive_3:=fun _ _ _=>True) trivial (fun _=>trivial) (fun _=>trivial) (fun _=>trivial) (fun _ _ _=>trivial) (fun _ _ _=>trivial) (fun _ _ _=>trivial) (fun _ _=>trivial) (fun _=>trivial) .nil (fun h _ _ b=>.cons h b) trivial (fun _ _ _ _=>trivial) h
theorem RpA.of(h:Paired (Rp K H) vs ds):RpA K H vs ds:=by
 induction h with
 |nil=>exact .nil
 |cons a _ b=>exact .cons a b
theorem RpA.len(h:RpA K H vs ds):vs.length=ds.length:=Paired.length h.pr
theorem RpA.append{us:List V}{es:List PyData}(h:RpA K H vs ds)(k:RpA K H us es):RpA K H (vs++us) (ds++es):=.of (kH h.pr k.pr)
theorem RpA.take(n:Nat)(h:RpA K H vs ds):RpA K H (vs.take n) (ds.take n):=.of (Ae n h.pr)
theorem RpA.drop(n:Nat)(h:RpA K H vs ds):RpA K H (vs.drop n) (ds.drop n):=.of (Af n h.pr)
theorem RpA.rev(h:RpA K H vs ds):RpA K H vs.reverse ds.reverse:=.of (ly h.pr)
theorem RpA.rep(n:Nat)(h:RpA K H vs ds):RpA K H (List.replicate n vs).flatten (List.replicate n ds).flatten:=.of (Di h.pr n)
theorem RpA.get{i:Nat}(h:RpA K H vs ds)(e:ds[i]? =some d):∃v,vs[i]? =some v∧Rp K H v d:=Ag h.pr e
theorem RpA.dropLast(h:RpA K H vs ds):RpA K H vs.dropLast ds.dropLast:=by
 rw[List.dropLast_eq_take,List.dropLast_eq_take,h.len]
 exact h.take _
theorem RpA.snoc(h:RpA K H vs ds)(k:Rp K H v d):RpA K H (vs++[v]) (ds++[d]):=h.append (.cons k .nil)
end
inductive Pt where
 |fl (d:PyData) |ol (ds:List PyData)
def Pt.val:Pt→PyData
 |.fl d=>d
 |.ol ds=>.list ds
inductive Sl where
 /-- nothing is known -/
 |no
 /-- never written again -/
 |sh (d:PyData)
 /-- a list of one's own -/
 |ow (ds:List PyData)
 /-- a dict of one's own,its values lists of one's own -/
 |od (kvs:List (jS×List PyData))
 /-- a tuple with lists of one's own -/
 |tx (ps:List Pt)
 /-- (a part of an expression) the value of a name -/
 |al (i:Nat)
 /-- (a part of an expression) as it stands just now -/
 |br (d:PyData)
def PtsOk(K:Frag)(F H:Hp):List V→List Pt→List Addr→Prop
 |[],[],A=>A=[]
 |v::vs,.fl d::ps,A=>Rp K F v d∧PtsOk K F H vs ps A
 |v::vs,.ol ds::ps,A=>∃l us A',v=.ref l∧A=l::A'∧H l=some (.lst us)∧RpA K F us ds∧PtsOk K F H vs ps A'
 |_,_,_=>False
def DlOk(K:Frag)(F H:Hp):List (jS×V)→List (jS×List PyData)→List Addr→Prop
 |[],[],A=>A=[]
 |p::us,q::kvs,A=>∃l vs A',p=(q.1,.ref l)∧A=l::A'∧H l=some (.lst vs)∧RpA K F vs q.2∧DlOk K F H us kvs A'
 |_,_,_=>False
def SlOk(K:Frag)(F H:Hp)(σ:L2.St)(o:Option V):Sl→List Addr→Prop
 |.no,A=>A=[]
 |.sh d,A=>A=[]∧∃v,o=some v∧Rp K F v d
 |.ow ds,A=>∃l vs,o=some (.ref l)∧A=[l]∧H l=some (.lst vs)∧RpA K F vs ds
 |.od kvs,A=>∃l us A',o=some (.ref l)∧A=l::A'∧H l=some (.dK us)∧DlOk K F H us kvs A'
 |.tx ps,A=>∃t vs,o=some (.ref t)∧F t=some (.tup vs)∧PtsOk K F H vs ps A
 |.al i,A=>A=[]∧∃v,o=some v∧σ[i]? =some (some v)
 |.br d,A=>A=[]∧∃v,o=some v∧Rp K H v d
def Sl.isBr:Sl→Bool
 |.br _=>true
 |_=>false
def Sl.isAl:Sl→Bool
 |.al _=>true
 |.br _=>true
 |_=>false
section
variable {K:Frag} {F F' H H':Hp} {σ σ':L2.St}
theorem PtsOk.stay(s:Same F F'):∀{vs:List V} {ps:List Pt} {A:List Addr},(∀b∈A,H' b=H b)→PtsOk K F H vs ps A→PtsOk K F' H' vs ps A
 |[],[],A,_,h=>h
 |v::vs,.fl d::ps,A,e,h=>⟨h.1.same s,PtsOk.stay s e h.2⟩
 |v::vs,.ol ds::ps,A,e,h=>by
  obtain⟨l,us,A',rfl,rfl,hl,hr,q⟩:=h
  exact⟨l,us,A',rfl,rfl,(e l (gE ..)).trans hl,hr.same s,q.stay s fun b hb=>e b (gQ _ hb)⟩
 |[],_::_,_,_,h=>False.elim h
 |_::_,[],_,_,h=>False.elim h
theorem DlOk.stay(s:Same F F'):∀{us:List (jS×V)} {kvs:List (jS×List PyData)} {A:List Addr},(∀b∈A,H' b=H b)→DlOk K F H us kvs A→DlOk K F' H' us kvs A
 |[],[],A,_,h=>h
 |p::us,q::kvs,A,e,h=>by
  obtain⟨l,vs,A',rfl,rfl,hl,hr,k⟩:=h
  exact⟨l,vs,A',rfl,rfl,(e l (gE ..)).trans hl,hr.same s,k.stay s fun b hb=>e b (gQ _ hb)⟩
 |[],_::_,_,_,h=>False.elim h
 |_::_,[],_,_,h=>False.elim h
theorem DlOk.some:∀{us:List (jS×V)} {kvs:List (jS×List PyData)} {A:List Addr},DlOk K F H us kvs A→∀a∈A,∃vs,H a=some (.lst vs)
 |[],[],A,h,a,ha=>by rw[show A=[]from h]at ha;cases ha
 |p::us,q::kvs,A,h,a,ha=>by
  obtain⟨l,vs,A',rfl,rfl,hl,hr,k⟩:=h
  rcases Zag.mp ha with e |e
  ·subst e;exact⟨vs,hl⟩
  ·exact k.some a e
 |[],_::_,_,h,_,_=>False.elim h
 |_::_,[],_,h,_,_=>False.elim h
theorem PtsOk.some:∀{vs:List V} {ps:List Pt} {A:List Addr},PtsOk K F H vs ps A→∀a∈A,∃us,H a=some (.lst us)
 |[],[],A,h,a,ha=>by rw[show A=[]from h]at ha;cases ha
 |v::vs,.fl d::ps,A,h,a,ha=>PtsOk.some h.2 a ha
 |v::vs,.ol ds::ps,A,h,a,ha=>by
  obtain⟨l,us,A',rfl,rfl,hl,hr,q⟩:=h
  rcases Zag.mp ha with e |e
  ·subst e;exact⟨us,hl⟩
  ·exact q.some a e
 |[],_::_,_,h,_,_=>False.elim h
 |_::_,[],_,h,_,_=>False.elim h
theorem PtsOk.rp(s:Same F H):∀{vs:List V} {ps:List Pt} {A:List Addr},PtsOk K F H vs ps A→RpA K H vs (ps.map Pt.val)
 |[],[],A,_=>.nil
 |v::vs,.fl d::ps,A,h=>.cons (h.1.same s) (PtsOk.rp s h.2)
 |v::vs,.ol ds::ps,A,h=>by
  obtain⟨l,us,A',rfl,rfl,hl,hr,q⟩:=h
  exact .cons (.lst (SqL.of hl) (hr.same s)) (q.rp s)
 |[],_::_,_,h=>False.elim h
 |_::_,[],_,h=>False.elim h
theorem SlOk.stay{o:Option V}{s:Sl}{A:List Addr}(hF:Same F F')(e:∀b∈A,H' b=H b)(hb:s.isBr=true→Same H H')(h:SlOk K F H σ o s A):SlOk K F' H' σ o s A:=by
 cases s with
 |no=>exact h
 |sh d=>obtain⟨rfl,v,rfl,r⟩:=h;exact⟨rfl,v,rfl,r.same hF⟩
 |ow ds=>obtain⟨l,vs,rfl,rfl,hl,r⟩:=h;exact⟨l,vs,rfl,rfl,(e l (by simp)).trans hl,r.same hF⟩
 |od kvs=>obtain⟨l,us,A',rfl,rfl,hl,r⟩:=h;exact⟨l,us,A',rfl,rfl,(e l (by simp)).trans hl,r.stay hF fun b hb=>e b (gQ _ hb)⟩
 |tx ps=>obtain⟨t,vs,rfl,ht,r⟩:=h;exact⟨t,vs,rfl,hF _ _ ht,r.stay hF e⟩
 |al i=>exact h
 |br d=>obtain⟨rfl,v,rfl,r⟩:=h;exact⟨rfl,v,rfl,r.same (hb rfl)⟩
theorem SlOk.mut{o:Option V}{s:Sl}{A:List Addr}(h:SlOk K F H σ o s A):∀a∈A,(∃us,H a=some (.lst us))∨∃us,H a=some (.dK us):=by
 cases s with
 |no=>intro a ha;rw[show A=[]from h]at ha;cases ha
 |sh d=>obtain⟨rfl,_⟩:=h;intro a ha;cases ha
 |ow ds=>obtain⟨l,vs,rfl,rfl,hl,r⟩:=h;intro a ha;rw[Zaf.mp ha];exact .inl ⟨_,hl⟩
 |od kvs=>
  obtain⟨l,vs,A',rfl,rfl,hl,r⟩:=h
  intro a ha
  rcases Zag.mp ha with z |z
  ·rw[z];exact .inr ⟨_,hl⟩
  ·exact .inl (r.some a z)
 |tx ps=>obtain⟨t,vs,rfl,ht,r⟩:=h;exact fun a ha=>.inl (r.some a ha)
 |al i=>obtain⟨rfl,_⟩:=h;intro a ha;cases ha
 |br d=>obtain⟨rfl,_⟩:=h;intro a ha;cases ha
end
inductive SAll (P:Option V→Sl→List Addr→Prop):List (Option V)→List Sl→List Addr→Prop
 |nil:SAll P [] [] []
 |cons {o:Option V} {s:Sl} {A:List Addr} {os:List (Option V)} {ss:List Sl} {B:List Addr}:P o s A→SAll P os ss B→SAll P (o::os) (s::ss) (A++B)
section
variable {P P':Option V→Sl→List Addr→Prop}
theorem SAll.len{os:List (Option V)}{ss:List Sl}{A:List Addr}(h:SAll P os ss A):os.length=ss.length:=by
 induction h with
 |nil=>rfl
 |cons _ _ b=>exact congrArg (· +1) b
theorem SAll.mono{os:List (Option V)}{ss:List Sl}{A:List Addr}(h:SAll P os ss A):(∀o s B,s∈ss→(∀b∈B,b∈A)→P o s B→P' o s B)→SAll P' os ss A:=by
 induction h with
 |nil=>exact fun _=>.nil
 |cons h _ r=>exact fun f=>.cons (f _ _ _ (gE ..) (fun b hb=>List.mem_append_left _ hb) h) (r fun o s B hs hB q=>f o s B (gQ _ hs) (fun b hb=>m9 _ (hB b hb)) q)
theorem SAll.all{R:Addr→Prop}(hR:∀o s B,P o s B→∀b∈B,R b){os:List (Option V)}{ss:List Sl}{A:List Addr}(h:SAll P os ss A):∀a∈A,R a:=by
 induction h with
 |nil=>exact fun _ ha=>nomatch ha
 |cons h _ r=>exact fun a ha=>(Zah.mp ha).elim (hR _ _ _ h a) (r a)
theorem SAll.at:∀{os:List (Option V)} {ss:List Sl} {A:List Addr} {k:Nat} {s:Sl},SAll P os ss A→ss[k]? =some s→
  ∃o A0 A1 A2,A=A0++(A1++A2)∧os[k]? =some o∧P o s A1∧∀(P':Option V→Sl→List Addr→Prop) (o':Option V) (s':Sl) (A1':List Addr),P' o' s' A1'→
   (∀o s B,s∈ss→(∀b∈B,b∈A0∨b∈A2)→P o s B→P' o s B)→SAll P' (os.set k o') (ss.set k s') (A0++(A1'++A2))
 |_,_,_,_,_,.nil,e=>by simp at e
 |_,_,_,0,s,.cons (o:=o) (A:=A) (B:=B) h r,e=>by
  simp at e;subst e
  refine⟨o,[],A,B,by simp,rfl,h,fun P' o' s' A1' h' f=>?_⟩
  have z:SAll P' _ _ (A1'++B):=.cons h' (r.mono (P':=P') fun o s B hs hB q=>f o s B (gQ _ hs) (fun b hb=>.inr (hB b hb)) q)
  exact z
 |_,_,_,k+1,s,.cons (o:=o) (A:=A) (B:=B) h r,e=>by
  obtain⟨o2,A0,A1,A2,eA,eo,hp,f⟩:=r.at (k:=k) (s:=s) (by simpa using e)
  subst eA
  refine⟨o2,A++A0,A1,A2,by simp,by simpa using eo,hp,fun P' o' s' A1' h' g=>?_⟩
  have z:=f P' o' s' A1' h' fun o s B hs hB q=>g o s B (gQ _ hs) (fun b hb=>(hB b hb).imp (fun x=>m9 _ x) id) q
  rw[oQ]
  exact .cons (g _ _ _ (gE ..) (fun b hb=>.inl (List.mem_append_left _ hb)) h) z
end
end PL
variable {E ss Xs E1 E':List Sl} {c:List PySem.PyData→Option Sl} {s1 s2:Sl}
namespace PL
open PySem L2 Nh
abbrev Sg:=L2.St
structure FrF (K:Frag) (B F:Hp) (A:List Addr) (σ:Sg) (H:Hp) (E:List Sl) (xs:List V) (Xs:List Sl):Prop where
 bf:Same B F
 fh:Same F H
 tf:Same (tups H) F
 sl:SAll (SlOk K F H σ) (xs.map some++σ) (Xs++E) A
 nd:A.Nodup
 fr:∀a∈A,F a=none
 len:xs.length=Xs.length
 pl:∀s∈E,s.isAl=false
def Frm(K:Frag)(B:Hp)(σ:Sg)(H:Hp)(E:List Sl)(xs:List V)(Xs:List Sl):Prop:=∃F A,FrF K B F A σ H E xs Xs
def Sl.val:Sl→Option PyData
 |.sh d=>some d
 |.ow ds=>some (.list ds)
 |.tx ps=>some (.tuple (ps.map Pt.val))
 |.br d=>some d
 |_=>none
def look(E:List Sl):Sl→Option PyData
 |.al i=>(E[i]?).bind Sl.val
 |s=>s.val
def Gh:Sl→Bool
 |.br _=>true
 |.tx _=>true
 |_=>false
def pH(E:List Sl):Sl→Bool
 |.al i=>(E[i]?).any Gh
 |s=>Gh s
def RpF(K:Frag)(F H:Hp)(v:V):PyData→Prop
 |.list ds=>∃a vs,v=.ref a∧SqL K H a vs∧RpA K F vs ds
 |d=>Rp K F v d
def vQ(F H:Hp)(A:List Addr):Hp:=fun b=>if b∈A then H b else F b
theorem tu{H:Hp}{A:List Addr}{b:Addr}(h:b∈A):vQ F H A b=H b:=if_pos h
theorem pI{H:Hp}{A:List Addr}{b:Addr}(h:b∉A):vQ F H A b=F b:=if_neg h
section
variable {K:Frag} {B F:Hp} {A:List Addr} {σ:Sg} {H:Hp} {E:List Sl} {xs:List V} {Xs:List Sl} {v:V} {s:Sl} {d:PyData}
theorem RpF.of(h:Rp K F v d)(s:Same F H):RpF K F H v d:=by
 cases h with
 |lst h r=>exact⟨_,_,rfl,s.seq h,r⟩
 |non=>exact .non
 |bl b=>exact .bl b
 |int i=>exact .int i
 |str x=>exact .str x
 |tup h r=>exact .tup h r
 |dct h r=>exact .dct h r
 |exc h r=>exact .exc h r
 |fnc r=>exact .fnc r
theorem SlOk.val{o:Option V}{A1:List Addr}(h:SlOk K F H σ o s A1)(hF:Same F H)(e:s.val=some d):∃v,o=some v∧Rp K H v d∧(Gh s=false→RpF K F H v d):=by
 cases s with
 |no=>cases e
 |sh d'=>
  obtain⟨rfl,v,rfl,r⟩:=h
  cases e
  exact⟨v,rfl,r.same hF,fun _=>RpF.of r hF⟩
 |ow ds=>
  obtain⟨l,vs,rfl,rfl,hl,r⟩:=h
  cases e
  exact⟨_,rfl,.lst (SqL.of hl) (r.same hF),fun _=>⟨_,_,rfl,SqL.of hl,r⟩⟩
 |od kvs=>cases e
 |tx ps=>
  obtain⟨t,vs,rfl,ht,r⟩:=h
  cases e
  exact⟨_,rfl,.tup (SqT.of (hF _ _ ht)) (r.rp hF),fun z=>by cases z⟩
 |al i=>cases e
 |br d'=>
  obtain⟨rfl,v,rfl,r⟩:=h
  cases e
  exact⟨v,rfl,r,fun z=>by cases z⟩
theorem FrF.slen(h:FrF K B F A σ H E xs Xs):σ.length=E.length:=by
 have e:=h.sl.len
 have:=h.len
 simp only[pA,eM]at e
 omega
theorem FrF.var{i:Nat}(h:FrF K B F A σ H E xs Xs)(e:E[i]? =some s):∃o A1,σ[i]? =some o∧SlOk K F H σ o s A1:=by
 obtain⟨o,A0,A1,A2,eA,eo,hp,_⟩:=h.sl.at (k:=Xs.length+i) (s:=s) (by rw[FD (by omega)];simpa using e)
 rw[FD (by rw[eM,h.len];omega),eM,h.len,CN]at eo
 exact⟨o,A1,eo,hp⟩
theorem FrF.ext(h:FrF K B F A σ H E xs Xs)(e:Xs[k]? =some s):∃v A1,xs[k]? =some v∧SlOk K F H σ (some v) s A1:=by
 have hk:k < Xs.length:=(Zav.mp e).1
 obtain⟨o,A0,A1,A2,eA,eo,hp,_⟩:=h.sl.at (k:=k) (s:=s) (by rw[List.getElem?_append_left hk];exact e)
 rw[List.getElem?_append_left (by rw[eM,h.len];omega),zP]at eo
 cases q:xs[k]? with
 |none=>rw[q]at eo;cases eo
 |some v=>rw[q]at eo;cases eo;exact⟨v,A1,rfl,hp⟩
theorem FrF.look(h:FrF K B F A σ H E xs Xs)(e:Xs[k]? =some s)(q:look E s=some d):∃v,xs[k]? =some v∧Rp K H v d∧(pH E s=false→RpF K F H v d):=by
 obtain⟨v,A1,ev,hs⟩:=h.ext e
 cases s with
 |al i=>
  obtain⟨rfl,w,ew,hw⟩:=hs
  cases ew
  cases ei:E[i]? with
  |none=>simp[PL.look,ei]at q
  |some t=>
   obtain⟨o,A2,eo,ht⟩:=h.var ei
   rw[hw]at eo
   cases eo
   obtain⟨v',e',r,c⟩:=ht.val h.fh (d:=d) (by simpa[PL.look,ei]using q)
   cases e'
   exact⟨v,ev,r,fun z=>c (by simpa[pH,ei]using z)⟩
 |no=>cases q
 |od kvs=>cases q
 |sh d'=>obtain⟨v',e',r,c⟩:=hs.val h.fh q;cases e';exact⟨v,ev,r,c⟩
 |ow ds=>obtain⟨v',e',r,c⟩:=hs.val h.fh q;cases e';exact⟨v,ev,r,c⟩
 |tx ps=>obtain⟨v',e',r,c⟩:=hs.val h.fh q;cases e';exact⟨v,ev,r,c⟩
 |br d'=>obtain⟨v',e',r,c⟩:=hs.val h.fh q;cases e';exact⟨v,ev,r,c⟩
theorem FrF.look0(h:FrF K B F A σ H E (v::xs) (s::Xs))(q:PL.look E s=some d):Rp K H v d∧(pH E s=false→RpF K F H v d):=by
 obtain⟨v',e,r⟩:=h.look (k:=0) rfl q
 cases e
 exact r
theorem FrF.look1{w:V}{t:Sl}(h:FrF K B F A σ H E (w::v::xs) (t::s::Xs))(q:PL.look E s=some d):Rp K H v d∧(pH E s=false→RpF K F H v d):=by
 obtain⟨v',e,r⟩:=h.look (k:=1) rfl q
 cases e
 exact r
theorem FrF.mutA(h:FrF K B F A σ H E xs Xs):∀a∈A,(∃us,H a=some (.lst us))∨∃us,H a=some (.dK us):=
 SAll.all (R:=fun a=>(∃us,H a=some (.lst us))∨∃us,H a=some (.dK us)) (fun _ _ _ q=>q.mut) h.sl
theorem FrF.newA{p:Addr}(h:FrF K B F A σ H E xs Xs)(hp:H p=none):p∉A:=fun hm=>by
 rcases h.mutA p hm with⟨_,z⟩ |⟨_,z⟩ <;> rw[hp]at z <;> cases z
theorem FrF.cold{u:V}{e:PyData}(h:FrF K B F A σ H E xs Xs)(r:Rp K H u e)(f:fL e=true):Rp K F u e:=(r.cold f).same h.tf
theorem FrF.coldA{us:List V}{es:List PyData}(h:FrF K B F A σ H E xs Xs)(r:RpA K H us es)(f:bL es=true):RpA K F us es:=(r.cold f).same h.tf
theorem FrF.push(h:FrF K B F A σ H E xs Xs)(q:SlOk K F H σ (some v) s []):FrF K B F A σ H E (v::xs) (s::Xs):=
 ⟨h.bf,h.fh,h.tf,.cons (A:=[]) q h.sl,h.nd,h.fr,by simp[h.len],h.pl⟩
theorem FrF.pop(h:FrF K B F A σ H E (v::xs) (s::Xs)):∃A',FrF K B F A' σ H E xs Xs:=by
 obtain⟨bf,fh,tf,sl,nd,fr,len,pl⟩:=h
 generalize hT:List.map some (v::xs)++σ=T at sl
 generalize hS:(s::Xs)++E=S at sl
 cases sl with
 |nil=>cases hS
 |cons q r=>
  injection hT with _ hT
  injection hS with _ hS
  subst hT hS
  exact⟨_,bf,fh,tf,r,(List.nodup_append.mp nd).2.1,fun a ha=>fr a (m9 _ ha),by simpa using len,pl⟩
theorem FrF.grow(h:FrF K B F A σ H E xs Xs)(g:Same H H'):FrF K B (fun b=>if b∈A then none else H' b) A σ H' E xs Xs:=by
 have nF:∀b o,F b=some o→b∉A:=fun b o e hb=>by rw[h.fr b hb]at e;cases e
 have FF:Same F (fun b=>if b∈A then none else H' b):=fun b o e=>by
  show(if b∈A then none else H' b)=some o
  rw[if_neg (nF b o e)]
  exact g _ _ (h.fh _ _ e)
 have hA:∀b∈A,H' b=H b:=fun b hb=>by
  rcases h.mutA b hb with⟨_,z⟩ |⟨_,z⟩ <;> rw[z,g _ _ z]
 refine⟨h.bf.trans FF,fun b o e=>?_,fun b o e=>?_,h.sl.mono fun o s C _ hC q=>q.stay FF (fun b hb=>hA b (hC b hb)) fun _=>g,h.nd,fun a ha=>if_pos ha,h.len,h.pl⟩
 ·by_cases hb:b∈A
  ·rw[if_pos hb]at e;cases e
  ·rw[if_neg hb]at e;exact e
 ·obtain⟨e1,e2⟩:=Option.filter_eq_some_iff.mp e
  show(if b∈A then none else H' b)=some o
  by_cases hb:b∈A
  ·rw[hA b hb]at e1
   rcases h.mutA b hb with⟨_,z⟩ |⟨_,z⟩ <;> rw[z]at e1 <;> cases e1 <;> cases e2
  ·rw[if_neg hb];exact e1
theorem FrF.newl{p:Addr}(h:FrF K B F A σ H E xs Xs)(r:RpA K F vs ds)(hp:H p=none):FrF K B F (p::A) σ (upd H p (.lst vs)) E (.ref p::xs) (.ow ds::Xs):=by
 have g:Same H (upd H p (.lst vs)):=gW hp _
 have nA:=h.newA hp
 refine⟨h.bf,h.fh.trans g,fun b o e=>?_,.cons (A:=[p]) ⟨p,vs,rfl,rfl,upd_same,r⟩ (h.sl.mono fun o s C _ hC q=>q.stay (Same.refl _) (fun b hb=>aC fun z=>nA (z▸hC b hb)) fun _=>g),List.nodup_cons.mpr ⟨nA,h.nd⟩,fun a ha=>?_,by simp[h.len],h.pl⟩
 ·obtain⟨e1,e2⟩:=Option.filter_eq_some_iff.mp e
  by_cases hb:b=p
  ·subst hb;rw[upd_same]at e1;cases e1;cases e2
  ·rw[aC hb]at e1;exact h.tf b o (mi e1 e2)
 ·rcases Zag.mp ha with z |z
  ·subst z;exact h.fh.free hp
  ·exact h.fr a z
theorem FrF.newt{p:Addr}(h:FrF K B F A σ H E xs Xs)(r:RpA K F vs ds)(hp:H p=none):FrF K B (upd F p (.tup vs)) A σ (upd H p (.tup vs)) E (.ref p::xs) (.sh (.tuple ds)::Xs):=by
 have g:Same H (upd H p (.tup vs)):=gW hp _
 have nA:=h.newA hp
 have gF:Same F (upd F p (.tup vs)):=gW (h.fh.free hp) _
 refine⟨h.bf.trans gF,fun b o e=>?_,fun b o e=>?_,.cons (A:=[]) ⟨rfl,_,rfl,.tup (.inl (.inl upd_same)) (r.same gF)⟩ (h.sl.mono fun o s C _ hC q=>q.stay gF (fun b hb=>aC fun z=>nA (z▸hC b hb)) fun _=>g),h.nd,fun a ha=>?_,by simp[h.len],h.pl⟩
 ·by_cases hb:b=p
  ·subst hb;rw[upd_same]at e ⊢;exact e
  ·rw[aC hb]at e ⊢;exact h.fh _ _ e
 ·obtain⟨e1,e2⟩:=Option.filter_eq_some_iff.mp e
  by_cases hb:b=p
  ·subst hb;rw[upd_same]at e1 ⊢;exact e1
  ·rw[aC hb]at e1 ⊢;exact h.tf b o (mi e1 e2)
 ·have ne:a≠p:=fun z=>nA (z▸ha)
  rw[aC ne];exact h.fr a ha
theorem FrF.mut{i:Nat}(h:FrF K B F A σ H E xs Xs)(e:E[i]? =some (.ow ds))(c:∀s∈Xs,s.isBr=false):
  ∃l vs,σ[i]? =some (some (.ref l))∧H l=some (.lst vs)∧RpA K F vs ds∧∀vs' ds',RpA K F vs' ds'→FrF K B F A σ (upd H l (.lst vs')) (E.set i (.ow ds')) xs Xs:=by
 obtain⟨o,A0,A1,A2,eA,eo,hp,put⟩:=h.sl.at (k:=Xs.length+i) (s:=.ow ds) (by rw[FD (by omega)];simpa using e)
 rw[FD (by rw[eM,h.len];omega),eM,h.len,CN]at eo
 obtain⟨l,vs,rfl,rfl,hl,r⟩:=hp
 refine⟨l,vs,eo,hl,r,fun vs' ds' r'=>?_⟩
 have hlA:l∈A:=by rw[eA];simp
 have nl:∀b,b∈A0∨b∈A2→b≠l:=fun b hb z=>by
  subst z
  have nd:=h.nd
  rw[eA]at nd
  rcases hb with hb |hb
  ·exact(List.nodup_append.mp nd).2.2 b hb b (by simp) rfl
  ·exact(List.nodup_append.mp (List.nodup_append.mp nd).2.1).2.2 b (by simp) b hb rfl
 have lF:F l=none:=h.fr l hlA
 have z:=put (SlOk K F (upd H l (.lst vs')) σ) (some (.ref l)) (.ow ds') [l] ⟨l,vs',rfl,rfl,upd_same,r'⟩ fun o s C hs hC q=>q.stay (Same.refl _) (fun b hb=>aC (nl b (hC b hb))) fun z=>by
  rcases Zah.mp hs with hs |hs
  ·rw[c s hs]at z;cases z
  ·have:=h.pl s hs
   cases s <;> simp[Sl.isAl,Sl.isBr]at this z
 have e3:(Xs++E).set (Xs.length+i) (.ow ds')=Xs++E.set i (.ow ds'):=by
  rw[List.set_append_right _ _ (by omega),CN]
 have e2:(List.map some xs++σ).set (Xs.length+i) (some (V.ref l))=List.map some xs++σ:=by
  rw[←h.len,List.set_append_right _ _ (by rw[eM];omega),eM,CN]
  congr 1
  exact List.ext_getElem? fun j=>by
   by_cases hj:i=j
   ·subst hj
    rw[List.getElem?_set_self',eo];rfl
   ·rw[List.getElem?_set_ne hj]
 rw[e2,e3,←eA]at z
 refine⟨h.bf,fun b o q=>?_,?_,z,h.nd,h.fr,h.len,fun s hs=>?_⟩
 ·rw[aC (fun z=>by rw[z,lF]at q;cases q)]
  exact h.fh _ _ q
 ·rw[pG hl];exact h.tf
 ·rcases List.mem_or_eq_of_mem_set hs with hs |hs
  ·exact h.pl s hs
  ·subst hs;rfl
theorem FrF.frzAt(h:FrF K B F A σ H E xs Xs)(e:(Xs++E)[k]? =some s)(q:s.val=some d)(c:s.isAl=false):
  ∃F' A' v,(xs.map some++σ)[k]? =some (some v)∧Rp K F' v d∧Same B F'∧Same F' H∧Same (tups H) F'∧SAll (SlOk K F' H σ) (xs.map some++σ) ((Xs++E).set k (.sh d)) A'∧A'.Nodup∧∀a∈A',F' a=none:=by
 obtain⟨o,A0,A1,A2,eA,eo,hp,put⟩:=h.sl.at e
 have nd:=h.nd
 rw[eA]at nd
 have nA1:∀b o,F b=some o→b∉A1:=fun b o e hb=>by
  have:=h.fr b (by rw[eA];simp[hb])
  rw[this]at e;cases e
 have FF:Same F (vQ F H A1):=fun b o e=>by rw[pI (nA1 b o e)];exact e
 obtain⟨v,rfl,r⟩:∃v,o=some v∧Rp K (vQ F H A1) v d:=by
  cases s with
  |no=>cases q
  |od kvs=>cases q
  |al i=>cases c
  |br d'=>cases c
  |sh d'=>
   obtain⟨rfl,v,rfl,r⟩:=hp
   cases q
   exact⟨v,rfl,r.same FF⟩
  |ow ds=>
   obtain⟨l,vs,rfl,rfl,hl,r⟩:=hp
   cases q
   exact⟨_,rfl,.lst (SqL.of ((tu (by simp)).trans hl)) (r.same FF)⟩
  |tx ps=>
   obtain⟨t,vs,rfl,ht,r⟩:=hp
   cases q
   refine⟨_,rfl,.tup (SqT.of (FF _ _ ht)) ?_⟩
   have r':PtsOk K (vQ F H A1) (vQ F H A1) vs ps A1:=r.stay FF fun b hb=>tu hb
   exact r'.rp (Same.refl _)
 have e2:(List.map some xs++σ).set k (some v)=List.map some xs++σ:=List.ext_getElem? fun j=>by
  by_cases hj:k=j
  ·subst hj
   rw[List.getElem?_set_self',eo];rfl
  ·rw[List.getElem?_set_ne hj]
 have z:=put (SlOk K (vQ F H A1) H σ) (some v) (.sh d) [] ⟨rfl,v,rfl,r⟩ fun o s C _ hC q=>q.stay FF (fun b _=>rfl) fun _=>Same.refl _
 rw[e2]at z
 refine⟨vQ F H A1,A0++A2,v,eo,r,h.bf.trans FF,fun b o e=>?_,fun b o e=>FF _ _ (h.tf _ _ e),by simpa using z,?_,fun a ha=>?_⟩
 ·by_cases hb:b∈A1
  ·rw[tu hb]at e;exact e
  ·rw[pI hb]at e;exact h.fh _ _ e
 ·exact List.Nodup.sublist (List.Sublist.append (List.Sublist.refl _) (List.sublist_append_right _ _)) nd
 ·have hn:a∉A1:=fun hm=>by
   rcases Zah.mp ha with z |z
   ·exact(List.nodup_append.mp nd).2.2 a z a (by simp[hm]) rfl
   ·exact(List.nodup_append.mp (List.nodup_append.mp nd).2.1).2.2 a hm a z rfl
  rw[pI hn]
  exact h.fr a (by rw[eA];rcases Zah.mp ha with z |z <;> simp[z])
end
def frz(E:List Sl):Sl→Option (PyData×List Sl)
 |.sh d=>some (d,E)
 |.ow ds=>some (.list ds,E)
 |.tx ps=>some (.tuple (ps.map Pt.val),E)
 |.br d=>if fL d then some (d,E)else none
 |.al i=>match E[i]? with
  |some (.sh d)=>some (d,E)
  |some (.ow ds)=>some (.list ds,E.set i (.sh (.list ds)))
  |some (.tx ps)=>some (.tuple (ps.map Pt.val),E.set i (.sh (.tuple (ps.map Pt.val))))
  |_=>none
 |_=>none
section
variable {K:Frag} {B F:Hp} {A:List Addr} {σ:Sg} {H:Hp} {E E':List Sl} {xs:List V} {Xs:List Sl} {v:V} {s:Sl} {d:PyData}
theorem FrF.frzVar{i:Nat}(h:FrF K B F A σ H E xs Xs)(e:E[i]? =some s)(q:s.val=some d):∃F' A' v,σ[i]? =some (some v)∧Rp K F' v d∧FrF K B F' A' σ H (E.set i (.sh d)) xs Xs:=by
 obtain⟨F',A',v,ev,r,b1,b2,b3,sl,nd,fr⟩:=h.frzAt (k:=Xs.length+i) (by rw[FD (by omega)];simpa using e) q (h.pl s (List.mem_of_getElem? e))
 rw[FD (by rw[eM,h.len];omega),eM,h.len,CN]at ev
 have e3:(Xs++E).set (Xs.length+i) (.sh d)=Xs++E.set i (.sh d):=by
  rw[List.set_append_right _ _ (by omega),CN]
 rw[e3]at sl
 refine⟨F',A',v,ev,r,b1,b2,b3,sl,nd,fr,h.len,fun s hs=>?_⟩
 rcases List.mem_or_eq_of_mem_set hs with hs |hs
 ·exact h.pl s hs
 ·subst hs;rfl
theorem FrF.frz0(h:FrF K B F A σ H E (v::xs) (s::Xs))(q:PL.frz E s=some (d,E')):∃F' A',FrF K B F' A' σ H E' (v::xs) (.sh d::Xs):=by
 have key:s.val=some d→s.isAl=false→E=E'→∃F' A',FrF K B F' A' σ H E' (v::xs) (.sh d::Xs):=fun q' c e=>by
  subst e
  obtain⟨F',A',v',ev,r,b1,b2,b3,sl,nd,fr⟩:=h.frzAt (k:=0) rfl q' c
  exact⟨F',A',b1,b2,b3,sl,nd,fr,by simpa using h.len,h.pl⟩
 have al:∀i t,s=.al i→E[i]? =some t→t.val=some d→E'=E.set i (.sh d)→∃F' A',FrF K B F' A' σ H E' (v::xs) (.sh d::Xs):=fun i t es ei qt eE=>by
  subst es eE
  obtain⟨v',A1,ev,hs⟩:=h.ext (k:=0) rfl
  cases ev
  obtain⟨rfl,w,ew,hw⟩:=hs
  cases ew
  obtain⟨F',A',w,ew,r,h'⟩:=h.frzVar ei qt
  rw[hw]at ew
  cases ew
  obtain⟨A2,h2⟩:=h'.pop
  exact⟨F',A2,h2.push ⟨rfl,_,rfl,r⟩⟩
 cases s with
 |no=>cases q
 |od kvs=>cases q
 |sh d'=>cases q;exact key rfl rfl rfl
 |ow ds=>cases q;exact key rfl rfl rfl
 |tx ps=>cases q;exact key rfl rfl rfl
 |br d'=>
  simp only[PL.frz]at q
  split at q
  ·rename_i hf
   cases q
   obtain⟨r,_⟩:=h.look0 (d:=d) rfl
   obtain⟨A2,h2⟩:=h.pop
   exact⟨F,A2,h2.push ⟨rfl,_,rfl,h.cold r hf⟩⟩
  ·cases q
 |al i=>
  simp only[PL.frz]at q
  split at q
  ·rename_i d' ei
   cases q
   refine al i _ rfl ei rfl ?_
   exact List.ext_getElem? fun j=>by
    by_cases hj:i=j
    ·subst hj;rw[List.getElem?_set_self',ei];rfl
    ·rw[List.getElem?_set_ne hj]
  ·rename_i ds ei
   cases q
   exact al i _ rfl ei rfl rfl
  ·rename_i ps ei
   cases q
   exact al i _ rfl ei rfl rfl
  ·cases q
theorem FrF.store{i:Nat}(h:FrF K B F A σ H E (v::xs) (s::Xs))(c:s.isAl=false)(cx:∀s∈Xs,s.isAl=false)(hi:i < E.length):∃A',FrF K B F A' (σ.set i (some v)) H (E.set i s) xs Xs:=by
 have hlen:=h.len
 have hsl:=h.slen
 obtain⟨bf,fh,tf,sl,nd,fr,len,pl⟩:=h
 generalize hT:List.map some (v::xs)++σ=T at sl
 generalize hS:(s::Xs)++E=S at sl
 cases sl with
 |nil=>cases hS
 |cons q r=>
  rename_i A1 _ _ A2
  injection hT with h1 hT
  injection hS with h2 hS
  subst h1 h2 hT hS
  have len':xs.length=Xs.length:=by simpa using len
  have r:SAll (SlOk K F H σ) (List.map some xs++σ) (Xs++E) A2:=r
  obtain⟨t,et⟩:∃t,E[i]? =some t:=⟨E[i],vH hi⟩
  obtain⟨o,C0,C1,C2,eA,eo,hp,put⟩:=r.at (k:=Xs.length+i) (s:=t) (by rw[FD (by omega)];simpa using et)
  have all:∀s'∈Xs++E,s'.isAl=false:=fun s' hs=>(Zah.mp hs).elim (cx s') (pl s')
  have chg:∀(o:Option V) (s':Sl) (C:List Addr),s'.isAl=false→SlOk K F H σ o s' C→SlOk K F H (σ.set i (some v)) o s' C:=fun o s' C hc z=>by
   cases s' <;> first |exact z |cases hc
  have z:=put (SlOk K F H (σ.set i (some v))) (some v) s A1 (chg _ _ _ c q) fun o s' C hs _ z=>chg o s' C (all s' hs) z
  have e3:(Xs++E).set (Xs.length+i) s=Xs++E.set i s:=by
   rw[List.set_append_right _ _ (by omega),CN]
  have e2:(List.map some xs++σ).set (Xs.length+i) (some v)=List.map some xs++σ.set i (some v):=by
   rw[←len',List.set_append_right _ _ (by rw[eM];omega),eM,CN]
  rw[e2,e3]at z
  refine⟨_,bf,fh,tf,z,?_,fun a ha=>fr a ?_,len',fun s' hs=>?_⟩
  ·rw[eA]at nd
   have p:(C0++(A1++C2)).Perm (A1++(C0++C2)):=by
    rw[←oQ,←oQ]
    exact List.Perm.append_right _ List.perm_append_comm
   refine p.nodup_iff.mpr (List.Nodup.sublist ?_ nd)
   exact List.Sublist.append (List.Sublist.refl _) (List.Sublist.append (List.Sublist.refl _) (List.sublist_append_right _ _))
  ·rw[eA]
   simp only[Zah]at ha ⊢
   rcases ha with z |z |z
   ·exact .inr (.inl z)
   ·exact .inl z
   ·exact .inr (.inr (.inr z))
  ·rcases List.mem_or_eq_of_mem_set hs with hs |hs
   ·exact pl s' hs
   ·subst hs;exact c
end
end PL
namespace PL
open PySem L2 Nh
abbrev ba:=List Sl→Option (Sl×List Sl)
abbrev jW:=List Sl→Option (Bool×List Sl)
abbrev nq:=List Sl→Option (List Sl×List Sl)
abbrev kX:=List Sl→Option (List PyData×List Sl)
inductive Fl where
 |nx |bk |ct |rt (r:Sl)
abbrev cI:=List Sl→Option (List Sl×Fl)
abbrev Calm(Xs:List Sl):Prop:=∀s∈Xs,s.isBr=false
abbrev Still(Xs:List Sl):Prop:=∀s∈Xs,s.isAl=false
theorem Still.calm(h:Still Xs):Calm Xs:=fun s hs=>by
 have:=h s hs
 cases s <;> simp[Sl.isAl,Sl.isBr]at this ⊢
theorem Still.nil(h:Xs=[]):Still Xs:=fun s hs=>by subst h;cases hs
theorem Calm.nil(h:Xs=[]):Calm Xs:=(Still.nil h).calm
theorem Calm.cons{s:Sl}(h:Calm Xs)(hs:s.isBr=false):Calm (s::Xs):=fun t ht=>(Zag.mp ht).elim (fun e=>e▸hs) (h t)
def rd(K:Frag)(m:Bool)(f:ba):TE:=fun σ H Q=>∃B E xs Xs r E',Frm K B σ H E xs Xs∧(m=true→Calm Xs)∧f E=some (r,E')∧∀v H',Frm K B σ H' E' (v::xs) (r::Xs)→Q v H'
def rt(K:Frag)(m:Bool)(f:jW):TT:=fun σ H Q=>∃B E xs Xs b E',Frm K B σ H E xs Xs∧(m=true→Calm Xs)∧f E=some (b,E')∧∀H',Frm K B σ H' E' xs Xs→Q b H'
def ra(K:Frag)(m:Bool)(f:nq):TA:=fun σ H Q=>∃B E xs Xs rs E',Frm K B σ H E xs Xs∧(m=true→Calm Xs)∧f E=some (rs,E')∧∀vs H',vs.length=rs.length→Frm K B σ H' E' (vs.reverse++xs) (rs.reverse++Xs)→Q vs H'
def NE(K:Frag)(m:Bool)(f:kX):TA:=fun σ H Q=>∃B E xs Xs ds E',Frm K B σ H E xs Xs∧(m=true→Calm Xs)∧f E=some (ds,E')∧∀vs H',vs.length=ds.length→Frm K B σ H' E' (vs.reverse++xs) (ds.reverse.map .sh++Xs)→Q vs H'
def rs(K:Frag)(g:cI):TS:=fun D σ H=>∃B E xs Xs E' fl,Frm K B σ H E xs Xs∧Xs=[]∧g E=some (E',fl)∧match fl with
 |.nx=>∀σ' H',Frm K B σ' H' E' xs Xs→D.nx σ' H'
 |.bk=>∀σ' H',Frm K B σ' H' E' xs Xs→D.bk σ' H'
 |.ct=>∀σ' H',Frm K B σ' H' E' xs Xs→D.ct σ' H'
 |.rt r=>∀σ' v H',Frm K B σ' H' E' (v::xs) (r::Xs)→D.rt v H'
def EX(X:Cx)(e:Expr)(m:Bool)(f:ba):Prop:=PE X e (rd X.K m f)
def TX(X:Cx)(e:Expr)(m:Bool)(f:jW):Prop:=PT X e (rt X.K m f)
def WX(X:Cx)(e:Expr)(m:Bool)(f:jW):Prop:=PW X e (rt X.K m f)
def AX(X:Cx)(es:List Expr)(m:Bool)(f:nq):Prop:=PA X es (ra X.K m f)
def DX(X:Cx)(es:List Expr)(m:Bool)(f:kX):Prop:=PA X es (NE X.K m f)
def SX(X:Cx)(s:Stmt)(g:cI):Prop:=PS X s (rs X.K g)
def vF(X:Cx)(s:List Stmt)(g:cI):Prop:=PSs X s (rs X.K g)
section
variable {X:Cx}
theorem bA{t t':TE}(h:PE X e t)(k:∀σ H Q,t' σ H Q→t σ H Q):PE X e t':=fun pins s σ H Q I q=>h pins s σ H Q I (k σ H Q q)
theorem x_{t t':TT}(h:PT X e t)(k:∀σ H Q,t' σ H Q→t σ H Q):PT X e t':=fun pins s σ H Q I q=>h pins s σ H Q I (k σ H Q q)
theorem Dj{t t':TT}(h:PW X e t)(k:∀σ H Q,t' σ H Q→t σ H Q):PW X e t':=fun whole pins s σ H Q I q=>h whole pins s σ H Q I (k σ H Q q)
theorem tv{es:List Expr}{t t':TA}(h:PA X es t)(k:∀σ H Q,t' σ H Q→t σ H Q):PA X es t':=fun pos pins s σ H Q I q=>h pos pins s σ H Q I (k σ H Q q)
theorem jX{t t':TS}(h:PS X st t)(k:∀D σ H,t' D σ H→t D σ H):PS X st t':=fun pins s σ H D I q=>h pins s σ H D I (k D σ H q)
theorem Ah{st:List Stmt}{t t':TS}(h:PSs X st t)(k:∀D σ H,t' D σ H→t D σ H):PSs X st t':=fun pins s σ H D I q=>h pins s σ H D I (k D σ H q)
end
def HM:PyData→Option V
 |.none=>some .non
 |.bool b=>some (.bl b)
 |.int i=>some (.int i)
 |.str x=>some (.str x)
 |_=>none
theorem pJ{K:Frag}{H:Hp}(h:HM d=some v):Rp K H v d:=by
 cases d <;> simp[HM]at h <;> subst h <;> constructor
def aa(i:Nat):ba:=fun E=>match E[i]? with
 |some (.sh d)=>some (.sh d,E)
 |some (.ow _)=>some (.al i,E)
 |some (.od _)=>some (.al i,E)
 |some (.tx _)=>some (.al i,E)
 |_=>none
def pC(d:PyData):ba:=fun E=>some (.sh d,E)
section
variable {X:Cx} {K:Frag}
theorem ae(i:Nat)  {pos:Pos} (hN:X.N[i]? =some x:=by rfl) (hv:Bl X.env.scope x:=by first |exact Or.inl rfl |exact Or.inr (Or.inl rfl) |exact Or.inr (Or.inr rfl)) (hd:(x == ("__debug__":Str))=false:=by decide)
  (hcd:(x == ("__classdict__":Str))=false:=by decide):EX X (.Name x pos) false (aa i):=by
 refine bA (lr hN hv hd hcd) fun σ H Q h=>?_
 obtain⟨B,E,xs,Xs,r,E',⟨F,A,fr⟩,_,e,q⟩:=h
 unfold aa at e
 split at e
 ·rename_i d ei
  cases e
  obtain⟨o,A1,eo,rfl,v,rfl,rp⟩:=fr.var ei
  exact⟨v,eo,q v H ⟨F,A,fr.push ⟨rfl,v,rfl,rp⟩⟩⟩
 ·rename_i ds ei
  cases e
  obtain⟨o,A1,eo,l,vs,rfl,_⟩:=fr.var ei
  exact⟨_,eo,q _ H ⟨F,A,fr.push ⟨rfl,_,rfl,eo⟩⟩⟩
 ·rename_i ds ei
  cases e
  obtain⟨o,A1,eo,l,vs,A2,rfl,_⟩:=fr.var ei
  exact⟨_,eo,q _ H ⟨F,A,fr.push ⟨rfl,_,rfl,eo⟩⟩⟩
 ·rename_i ds ei
  cases e
  obtain⟨o,A1,eo,l,vs,rfl,_⟩:=fr.var ei
  exact⟨_,eo,q _ H ⟨F,A,fr.push ⟨rfl,_,rfl,eo⟩⟩⟩
 ·cases e
theorem Gi(d:PyData)(h:PE X e (tC v))(hd:HM d=some v:=by rfl):EX X e false (pC d):=by
 refine bA h fun σ H Q h=>?_
 obtain⟨B,E,xs,Xs,r,E',⟨F,A,fr⟩,_,e,q⟩:=h
 cases e
 exact q v H ⟨F,A,fr.push ⟨rfl,v,rfl,pJ hd⟩⟩
theorem au{i j pos}:EX X (.Constant (.int i) j pos) false (pC (.int i)):=Gi _ Ip
theorem k8{b j pos}:EX X (.Constant (.bool b) j pos) false (pC (.bool b)):=Gi _ CQ
theorem Dk{j pos}:EX X (.Constant .none j pos) false (pC .none):=Gi _ Iq
theorem aV{x j pos}:EX X (.Constant (.str x) j pos) false (pC (.str x)):=Gi _ sU
end
abbrev P2:=List Sl→Sl→Sl→Option (Sl×List Sl)
def jY(K:Frag)(r:R2)(p:P2):Prop:=∀{B F:Hp} {A:List Addr} {σ:Sg} {H:Hp} {E:List Sl} {xs:List V} {Xs:List Sl} {v1 v2:V} {s1 s2 res:Sl} {E':List Sl} {Q:VK},
 FrF K B F A σ H E (v2::v1::xs) (s2::s1::Xs)→p E s1 s2=some (res,E')→(∀v H',Frm K B σ H' E' (v::xs) (res::Xs)→Q v H')→r v1 v2 H Q
def ah(p:P2)(m2:Bool)(f g:ba):ba:=fun E=>(f E).bind fun a=>if m2&&a.1.isBr then none else (g a.2).bind fun b=>p b.2 a.1 b.1
theorem tw{K:Frag}{r:R2}{p:P2}(hp:jY K r p){m2:Bool}{f g:ba}{σ:Sg}{H:Hp}{Q:VK}(h:rd K (m1||m2) (ah p m2 f g) σ H Q):KS r (rd K m1 f) (rd K m2 g) σ H Q:=by
 obtain⟨B,E,xs,Xs,res,E',fr,c,e,q⟩:=h
 obtain⟨⟨s1,E1⟩,e1,e⟩:=Za.mp e
 by_cases hb:(m2&&s1.isBr)=true
 ·rw[if_pos hb]at e;cases e
 rw[if_neg hb]at e
 obtain⟨⟨s2,E2⟩,e2,e⟩:=Za.mp e
 refine⟨B,E,xs,Xs,s1,E1,fr,fun z=>c (by simp[z]),e1,fun v1 H1 fr1=>?_⟩
 refine⟨B,E1,v1::xs,s1::Xs,s2,E2,fr1,fun z=>?_,e2,fun v2 H2 fr2=>?_⟩
 ·refine Calm.cons (c (by simp[z])) ?_
  cases hs:s1.isBr with
  |false=>rfl
  |true=>exact absurd (by simp[z,hs]) hb
 ·obtain⟨F,A,fr2⟩:=fr2
  exact hp fr2 e q
def jf(op:PyData→PyData→Option PyData):P2:=fun E s1 s2=>(look E s1).bind fun d1=>(look E s2).bind fun d2=>(op d1 d2).map fun d=>(.sh d,E)
theorem FrF.res2{K:Frag}{B:Hp}{A:List Addr}{σ:Sg}{H:Hp}{s:Sl}(h:FrF K B F A σ H E (v2::v1::xs) (s2::s1::Xs))(q:SlOk K F H σ (some v) s []):Frm K B σ H E (v::xs) (s::Xs):=by
 obtain⟨A1,h⟩:=h.pop
 obtain⟨A2,h⟩:=h.pop
 exact⟨F,A2,h.push q⟩
theorem nu{K:Frag}{r:R2}{op:PyData→PyData→Option PyData}(h:∀(d1 d2 d:PyData) (v1 v2:V) (H:Hp) (Q:VK),op d1 d2=some d→Rp K H v1 d1→Rp K H v2 d2→∃v,HM d=some v∧(Q v H→r v1 v2 H Q)):jY K r (jf op):=by
 intro B F A σ H E xs Xs v1 v2 s1 s2 res E' Q fr e q
 obtain⟨d1,e1,e⟩:=Za.mp e
 obtain⟨d2,e2,e⟩:=Za.mp e
 obtain⟨d,e3,e⟩:=Zab.mp e
 cases e
 obtain⟨v,hv,k⟩:=h d1 d2 d v1 v2 H Q e3 (fr.look1 e1).1 (fr.look0 e2).1
 exact k (q v H (fr.res2 ⟨rfl,v,rfl,pJ hv⟩))
section
variable {X:Cx} {a b:Expr} {m1 m2:Bool} {f g:ba} {pos:Pos}
theorem oq{op:Operator}{r:R2}{p:P2}(ho:OpR X (binaryOp op) r)(hp:jY X.K r p)(ha:EX X a m1 f)(hb:EX X b m2 g):EX X (.BinOp a op b pos) (m1||m2) (ah p m2 f g):=bA (KU ho ha hb) fun _ _ _ h=>tw hp h
theorem Dl{op:CmpOp}{r:R2}{p:P2}(ho:OpR X (compareOp op) r)(hp:jY X.K r p)(ha:EX X a m1 f)(hb:EX X b m2 g)(hm:behindInMarks op b=false):EX X (.Compare a [op] [b] pos) (m1||m2) (ah p m2 f g):=bA (FW ho ha hb hm) fun _ _ _ h=>tw hp h
def d5(f:ba):jW:=fun E=>(f E).bind fun a=>match a.1 with
 |.sh (.bool b)=>some (b,a.2)
 |_=>none
theorem Ja{K:Frag}{f:ba}{σ:Sg}{H:Hp}{Q:Bool→Hp→Prop}(h:rt K m (d5 f) σ H Q):rd K m f σ H (fun x H'=>∃k,x=.bl k∧Q k H'):=by
 obtain⟨B,E,xs,Xs,b,E',fr,c,e,q⟩:=h
 obtain⟨⟨s,E1⟩,e1,e⟩:=Za.mp e
 refine⟨B,E,xs,Xs,s,E1,fr,c,e1,fun v H' ⟨F,A,fr'⟩=>?_⟩
 simp only at e
 split at e
 ·cases e
  obtain⟨r,_⟩:=fr'.look0 (d:=.bool b) rfl
  cases r
  obtain⟨A',fr2⟩:=fr'.pop
  exact⟨b,rfl,q H' ⟨F,A',fr2⟩⟩
 ·cases e
theorem tz{op:CmpOp}{r:R2}{p:P2}(ho:OpR X (compareOp op) r)(hp:jY X.K r p)(ha:EX X a m1 f)(hb:EX X b m2 g)(hm:behindInMarks op b=false):TX X (.Compare a [op] [b] pos) (m1||m2) (d5 (ah p m2 f g)):=by
 refine x_ (FX ho ha hb hm) fun σ H Q h=>?_
 exact tw hp (Ja h)
end
def Jb:Int:=2 ^ 20000
def fN(i j:Int):Bool:=decide (-(2 ^ 64) < i∧i < 2 ^ 64)||decide (-(2 ^ 64) < j∧j < 2 ^ 64)||decide (-Jb < i∧i < Jb∧ -Jb < j∧j < Jb)
def ou(j:Int):Bool:=decide (0 < j∧j < 2 ^ 200)
def Dm(C:Int→Int→Bool)(g:Int→Int→PyData):PyData→PyData→Option PyData
 |.int i,.int j=>if C i j then some (g i j)else none
 |_,_=>none
abbrev HN(C:Int→Int→Bool)(g:Int→Int→V):R2:=rI (fun i j=>C i j=true) g
theorem nv{K:Frag}{C:Int→Int→Bool}{g:Int→Int→PyData}{g':Int→Int→V}(hg:∀i j,HM (g i j)=some (g' i j)):jY K (HN C g') (jf (Dm C g)):=by
 refine nu fun d1 d2 d v1 v2 H Q e r1 r2=>?_
 unfold Dm at e
 split at e
 ·split at e
  ·cases e
   cases r1
   cases r2
   rename_i hC
   exact⟨_,hg _ _,fun q=>⟨_,_,rfl,rfl,hC,q⟩⟩
  ·cases e
 ·cases e
section
variable {X:Cx}
theorem ov{i:Int}(h1: -Jb < i)(h2:i < Jb):Builtin.Int.intBits i≤2 ^ 20:=by
 unfold Jb at h1 h2
 have h:i.natAbs < 2 ^ 20000:=by
  have e:((2 ^ 20000:Nat):Int)=2 ^ 20000:=Int.natCast_pow 2 20000
  generalize (2 ^ 20000:Int)=z at h1 h2 e
  generalize (2 ^ 20000:Nat)=y at e ⊢
  omega
 unfold Builtin.Int.intBits
 split
 ·exact zz9 _
 ·rename_i hz
  have hz':i≠0:=by simpa using hz
  have:i.natAbs.log2 < 20000:=(Nat.log2_lt (by omega)).mpr h
  omega
theorem Do{i j:Int}(h:fN i j=true):PySem.IntMulOk i j:=by
 unfold fN at h
 simp only[Bool.or_eq_true,decide_eq_true_eq]at h
 rcases h with(h |h) |h
 ·exact CMul.ok (.inl h)
 ·exact CMul.ok (.inr h)
 ·exact PySem.IntMulOk.of_bits (ov h.1 h.2.1) (ov h.2.2.1 h.2.2.2)
end
end PL
variable {it:PL.kX} {f el:PL.ba} {cond:PL.jW}
namespace PL
open PySem L2 Nh PyProof.Rows
abbrev oA:=L2.St
section
variable {X:Cx}
theorem OpR.or{f:Value→Value→Sem Value}{r:R2}(h:OpR X f r)(h':OpR X f r'):OpR X f (fun x y H Q=>r x y H Q∨r' x y H Q):=by
 intro pins s σ H x y v u Q I rx ry q
 rcases q with q |q
 ·exact h pins s σ H x y v u Q I rx ry q
 ·exact h' pins s σ H x y v u Q I rx ry q
theorem OpR.imp{f:Value→Value→Sem Value}{r:R2}(h:OpR X f r)(k:∀x y H Q,r' x y H Q→r x y H Q):OpR X f r':=fun pins s σ H x y v u Q I rx ry q=>h pins s σ H x y v u Q I rx ry (k _ _ _ _ q)
def HP(K:Frag):R2:=fun x y H Q=>∃l b xs zs,x=.ref l∧y=.ref b∧SqL K H l xs∧SqL K H b zs∧xs.length+zs.length≤sizeLine∧∀p,H p=none→Q (.ref p) (upd H p (.lst (xs++zs)))
theorem Gj:OpR X (binaryOp .Add) (HP X.K):=by
 intro pins s σ H x y v u Q I rx ry h
 obtain⟨l,b,xs,zs,rfl,rfl,hH,hB,hz,q⟩:=h
 cases rx
 cases ry
 obtain⟨its,r,p1,z1⟩:=I.list hH
 obtain⟨its2,r2,p2,z2⟩:=I.list hB
 obtain⟨⟨cls,dd,data,sl⟩,ho,hc,n,hd⟩:=p1.isList
 obtain⟨⟨cls2,dd2,data2,sl2⟩,ho2,hc2,n2,vE⟩:=p2.isList
 simp only at hc hd hc2 vE
 subst hc hd hc2 vE
 have l1:=r.length
 have l2:=r2.length
 refine concat_meets ⟨_,ho,rfl⟩ ⟨_,ho2,rfl⟩ noFill_list_add seq_list_add PySem.F.slot_list_add PySem.F.entry_list_add (PySem.F.args_list_add_2 _ _) (list_addW l b its.toArray its2.toArray n n2 dd dd2 sl sl2 (by simp only[k7];omega)) ⟨ho,ho2,?_⟩
 have ea:its.toArray++its2.toArray=(its++its2).toArray:=by simp
 rw[ea]
 exact⟨.ref _,_,I.lnew (t':=s.toks) (r.append r2) (by rw[pA];omega),rfl,q _ I.fresh⟩
def HQ(K:Frag):R2:=fun x y H Q=>∃l k xs,x=.ref l∧y=.int k∧SqL K H l xs∧ -(2 ^ 63)≤k∧k < 2 ^ 63∧xs.length*k.toNat≤sizeLine∧
 ∀p,H p=none→Q (.ref p) (upd H p (.lst (List.replicate k.toNat xs).flatten))
theorem Gk:OpR X (binaryOp .Mult) (HQ X.K):=by
 intro pins s σ H x y v u Q I rx ry h
 obtain⟨l,k,xs,rfl,rfl,hH,h1,h2,hz,q⟩:=h
 cases rx
 obtain⟨t,rfl⟩:=ry
 obtain⟨its,r,p1,z1⟩:=I.list hH
 obtain⟨⟨cls,d,data,sl⟩,ho,hcl,n,hd⟩:=p1.isList
 simp only at hcl hd
 subst hcl hd
 have l1:=r.length
 have hsz:its.toArray.size*k.toNat≤2 ^ 24:=by rw[k7,←l1];exact hz
 refine wpAny_binaryOp_repeat_ref (T:="list") (U:="int") (by decide) ⟨_,ho,rfl⟩ (fun s'=>typeIs_int s' k t) noFill_list_mul F.fills_int_mul F.slot_int_rmul repeat_list F.slot_int_index.lookup
  (call_meets F.slot_int_rmul (typeIs_int s k t) F.entry_int_rmul (F.args_int_rmul_2 _ _) (lm_int_rmul_list_any k t l its.toArray n d sl)
   ⟨ho,rfl,⟨_,ho,rfl⟩,call_meets F.slot_list_mul ⟨_,ho,rfl⟩ F.entry_list_mul (F.args_list_mul_2 _ _)
    (lm_list_mul_any l its.toArray n d sl k t (by simp[Builtin.List.listFitsIndex];omega) (by omega) (by simp[Builtin.List.listTooLong,sizeLine];omega))
    ⟨ho,?_⟩⟩)
 rw[listMul_foldl_if]
 exact⟨.ref _,_,I.lnew (t':=s.toks) (r.rep k.toNat) (by rw[Ge,Nat.mul_comm];exact hz),rfl,q _ I.fresh⟩
end
def bK:P2:=fun E s1 s2=>(look E s1).bind fun d1=>(look E s2).bind fun d2=>match d1,d2 with
 |.int i,.int j=>some (.sh (.int (i+j)),E)
 |.str a,.str b=>if a.length+b.length≤1000000 then some (.sh (.str (a++b)),E)else none
 |.list a,.list b=>if decide (a.length+b.length≤1000000)&&(!pH E s1||bL a)&&(!pH E s2||bL b)then some (.ow (a++b),E)else none
 |_,_=>none
theorem small(h:n≤1000000):n < sizeLine:=zz8 h (by rw[sizeLine_eq];decide)
theorem gX(h:n≤1000000):n≤sizeLine:=lq (small h)
section
variable {K:Frag} {B F:Hp} {A:List Addr} {σ:oA} {H:Hp} {E:List Sl} {xs:List V} {Xs:List Sl} {v:V} {s:Sl} {ds:List PyData}
theorem FrF.items(h:FrF K B F A σ H E xs Xs)(e:Xs[k]? =some s)(q:PL.look E s=some (.list ds))(c:(!pH E s||bL ds)=true):∃a vs,xs[k]? =some (.ref a)∧SqL K H a vs∧RpA K F vs ds:=by
 obtain⟨v,ev,r,f⟩:=h.look e q
 cases hh:pH E s with
 |false=>
  obtain⟨a,vs,rfl,h1,h2⟩:=f hh
  exact⟨a,vs,ev,h1,h2⟩
 |true=>
  rw[hh]at c
  cases r with
  |lst h1 h2=>exact⟨_,_,ev,h1,h.coldA h2 (by simpa using c)⟩
theorem FrF.res2l(h:FrF K B F A σ H E (v2::v1::xs) (s2::s1::Xs))(r:RpA K F vs ds){p:Addr}(hp:H p=none):Frm K B σ (upd H p (.lst vs)) E (.ref p::xs) (.ow ds::Xs):=by
 obtain⟨A1,h⟩:=h.pop
 obtain⟨A2,h⟩:=h.pop
 exact⟨F,_,h.newl r hp⟩
end
abbrev HR(K:Frag):R2:=fun x y H Q=>(∃i j,x=.int i∧y=.int j∧Q (.int (i+j)) H)∨(∃i j,x=.str i∧y=.str j∧i.length+j.length≤sizeLine∧Q (.str (i++j)) H)∨HP K x y H Q
theorem Gm:OpR X (binaryOp .Add) (HR X.K):=OpR.or IG (OpR.or xV Gj)
theorem Gn{K:Frag}:jY K (HR K) bK:=by
 intro B F A σ H E xs Xs v1 v2 s1 s2 res E' Q fr e q
 obtain⟨d1,e1,e⟩:=Za.mp e
 obtain⟨d2,e2,e⟩:=Za.mp e
 have r1:=(fr.look1 e1).1
 have r2:=(fr.look0 e2).1
 split at e
 ·cases e;cases r1;cases r2
  exact .inl ⟨_,_,rfl,rfl,q _ _ (fr.res2 ⟨rfl,_,rfl,.int _⟩)⟩
 ·split at e
  ·rename_i hl
   cases e;cases r1;cases r2
   exact .inr (.inl ⟨_,_,rfl,rfl,gX hl,q _ _ (fr.res2 ⟨rfl,_,rfl,.str _⟩)⟩)
  ·cases e
 ·split at e
  ·rename_i hc
   cases e
   simp only[rC,decide_eq_true_eq]at hc
   obtain⟨a1,u1,x1,q1,i1⟩:=fr.items (k:=1) rfl e1 hc.1.2
   obtain⟨a2,u2,x2,q2,i2⟩:=fr.items (k:=0) rfl e2 hc.2
   cases x1;cases x2
   have l1:=i1.len
   have l2:=i2.len
   exact .inr (.inr ⟨_,_,_,_,rfl,rfl,q1,q2,gX (by omega),fun p hp=>q _ _ (fr.res2l (i1.append i2) hp)⟩)
  ·cases e
 ·cases e
def Jc:P2:=jf (Dm (fun _ _=>true) fun i j=>.int (i - j))
def df:P2:=jf (Dm (fun _ j=>ou j) fun i j=>.int (i / j))
def cJ:P2:=jf (Dm (fun _ j=>decide (0 < j)) fun i j=>.int (i % j))
def vR:P2:=jf (Dm (fun i j=>decide (0≤j∧j≤1000000∧ -(2 ^ 64) < i∧i < 2 ^ 64)) fun i j=>.int (i ^ j.toNat))
section
variable {X:Cx}
theorem Go:OpR X (binaryOp .Sub) (HN (fun _ _=>true) fun i j=>.int (i - j)):=OpR.imp IH fun x y H Q ⟨i,j,a,b,_,q⟩=>⟨i,j,a,b,q⟩
theorem Dp:OpR X (binaryOp .FloorDiv) (HN (fun _ j=>ou j) fun i j=>.int (i / j)):=KY fun i j _ _ _ _ _ hc q=>by
 obtain⟨h1,h2⟩:=zz5 hc
 have h3:j.natAbs.log2 < 9000:=by
  have:j.natAbs < 2 ^ 200:=by omega
  have:=(Nat.log2_lt (n:=j.natAbs) (k:=200) (by omega)).mpr this
  omega
 exact floordiv_int (by omega) (by rw[Int.fdiv_eq_ediv_of_nonneg i (by omega)];exact q) (.inl (PyProof.noPylong_of_log2 h3))
theorem Gp:OpR X (binaryOp .Mod) (HN (fun _ j=>decide (0 < j)) fun i j=>.int (i % j)):=OpR.imp II fun x y H Q ⟨i,j,a,b,c,q⟩=>⟨i,j,a,b,zz5 c,q⟩
theorem Gq{i j:Int}(c:0≤j∧j≤1000000∧ -(2 ^ 64) < i∧i < 2 ^ 64):KZ i j:=⟨c.1,c.2.1,by omega⟩
theorem Gr:OpR X (binaryOp .Pow) (HN (fun i j=>decide (0≤j∧j≤1000000∧ -(2 ^ 64) < i∧i < 2 ^ 64)) fun i j=>.int (i ^ j.toNat)):=OpR.imp IJ fun x y H Q ⟨i,j,a,b,c,q⟩=>⟨i,j,a,b,Gq (zz5 c),q⟩
end
def iH:P2:=fun E s1 s2=>(look E s1).bind fun d1=>(look E s2).bind fun d2=>match d1,d2 with
 |.int i,.int j=>if fN i j then some (.sh (.int (i*j)),E)else none
 |.list a,.int k=>if decide (a.length*k.toNat≤1000000∧ -1000000≤k∧k≤1000000)&&(!pH E s1||bL a)then some (.ow (List.replicate k.toNat a).flatten,E)else none
 |_,_=>none
abbrev HS(K:Frag):R2:=fun x y H Q=>HN fN (fun i j=>.int (i*j)) x y H Q∨HQ K x y H Q
theorem Gs:OpR X (binaryOp .Mult) (HS X.K):=OpR.or (KY fun _ _ _ _ _ _ _ hc q=>mul_int q (Do hc)) Gk
theorem Gu{K:Frag}:jY K (HS K) iH:=by
 intro B F A σ H E xs Xs v1 v2 s1 s2 res E' Q fr e q
 obtain⟨d1,e1,e⟩:=Za.mp e
 obtain⟨d2,e2,e⟩:=Za.mp e
 have r1:=(fr.look1 e1).1
 have r2:=(fr.look0 e2).1
 split at e
 ·split at e
  ·rename_i hm
   cases e;cases r1;cases r2
   exact .inl ⟨_,_,rfl,rfl,hm,q _ _ (fr.res2 ⟨rfl,_,rfl,.int _⟩)⟩
  ·cases e
 ·split at e
  ·rename_i hc
   cases e
   simp only[rC,decide_eq_true_eq]at hc
   obtain⟨a1,u1,x1,q1,i1⟩:=fr.items (k:=1) rfl e1 hc.2
   cases x1;cases r2
   have l1:=i1.len
   exact .inr ⟨_,_,_,rfl,rfl,q1,by omega,by omega,gX (by rw[l1];exact hc.1.1),fun p hp=>q _ _ (fr.res2l (i1.rep _) hp)⟩
  ·cases e
 ·cases e
section
variable {X:Cx} {a b:Expr} {m1 m2:Bool} {f g:ba} {pos:Pos}
theorem bF(ha:EX X a m1 f)(hb:EX X b m2 g):EX X (.BinOp a .Add b pos) (m1||m2) (ah bK m2 f g):=oq Gm Gn ha hb
theorem Dq(ha:EX X a m1 f)(hb:EX X b m2 g):EX X (.BinOp a .Sub b pos) (m1||m2) (ah Jc m2 f g):=oq Go (nv fun _ _=>rfl) ha hb
theorem gu(ha:EX X a m1 f)(hb:EX X b m2 g):EX X (.BinOp a .Mult b pos) (m1||m2) (ah iH m2 f g):=oq Gs Gu ha hb
theorem gG(ha:EX X a m1 f)(hb:EX X b m2 g):EX X (.BinOp a .FloorDiv b pos) (m1||m2) (ah df m2 f g):=oq Dp (nv fun _ _=>rfl) ha hb
theorem cA(ha:EX X a m1 f)(hb:EX X b m2 g):EX X (.BinOp a .Mod b pos) (m1||m2) (ah cJ m2 f g):=oq Gp (nv fun _ _=>rfl) ha hb
theorem Dr(ha:EX X a m1 f)(hb:EX X b m2 g):EX X (.BinOp a .Pow b pos) (m1||m2) (ah vR m2 f g):=oq Gr (nv fun _ _=>rfl) ha hb
end
def MR(K:Frag)(r:V→Hp→VK→Prop)(op:PyData→Option PyData):Prop:=∀(d1 d:PyData) (v1:V) (H:Hp) (Q:VK),op d1=some d→Rp K H v1 d1→∃v,HM d=some v∧(Q v H→r v1 H Q)
def lA(op:PyData→Option PyData)(f:ba):ba:=fun E=>(f E).bind fun a=>(look a.2 a.1).bind fun d1=>(op d1).map fun d=>(.sh d,a.2)
theorem Li{K:Frag}{r:V→Hp→VK→Prop}{op:PyData→Option PyData}(hp:MR K r op){σ:oA}{H:Hp}{Q:VK}(h:rd K m (lA op f) σ H Q):rd K m f σ H (fun x H1=>r x H1 Q):=by
 obtain⟨B,E,xs,Xs,res,E',fr,c,e,q⟩:=h
 obtain⟨⟨s1,E1⟩,e1,e⟩:=Za.mp e
 obtain⟨d1,e2,e⟩:=Za.mp e
 obtain⟨d,e3,e⟩:=Zab.mp e
 cases e
 refine⟨B,E,xs,Xs,s1,E1,fr,c,e1,fun v1 H1 ⟨F,A,fr1⟩=>?_⟩
 obtain⟨v,hv,k⟩:=hp d1 d v1 H1 Q e3 (fr1.look0 e2).1
 obtain⟨A',fr2⟩:=fr1.pop
 exact k (q v H1 ⟨F,A',fr2.push ⟨rfl,v,rfl,pJ hv⟩⟩)
def Gv:PyData→Option PyData
 |.int i=>some (.int (-i))
 |_=>none
section
variable {X:Cx} {a b c:Expr} {m1 m2 m3:Bool} {f g h:ba} {pos:Pos}
theorem Ds(ha:EX X a m1 f):EX X (.UnaryOp .USub a pos) m1 (lA Gv f):=bA (KW IM ha) fun σ H Q h=>Li (r:=rU fun i=>.int (-i)) (fun d1 d v1 H Q e r=>by
 cases d1 <;> simp[Gv]at e
 cases e;cases r
 exact⟨_,rfl,fun q=>⟨_,rfl,q⟩⟩) h
end
def Ai(d1 d2:PyData):Option Bool:=match d1,d2 with
 |.int i,.int j=>some (decide (i=j))
 |.str a,.str b=>some (decide (a=b))
 |.bool a,.bool b=>some (decide (a=b))
 |.none,.none=>some true
 |.none,.str _=>some false
 |.str _,.none=>some false
 |d1,d2=>if SeqAt.shaped d1&&SeqAt.shaped d2 then some (PyData.eqv d1 d2)else none
def kY:P2:=jf fun d1 d2=>(Ai d1 d2).map fun b=>.bool b
def qP:P2:=jf fun d1 d2=>(Ai d1 d2).map fun b=>.bool (!b)
abbrev MS(K:Frag):R2:=fun x y H Q=>Nn x y H Q∨Lf K x y H Q
abbrev MT(K:Frag):R2:=fun x y H Q=>No x y H Q∨Lg K x y H Q
theorem Dt{K:Frag}{H:Hp}{d1 d2:PyData}{b:Bool}(e:Ai d1 d2=some b)(r1:Rp K H v1 d1)(r2:Rp K H v2 d2):
  (IN v1 v2=true∧decide (v1=v2)=b)∨(DOf K H v1 d1∧DOf K H v2 d2∧SeqAt.shaped d1=true∧SeqAt.shaped d2=true∧PyData.eqv d1 d2=b):=by
 unfold Ai at e
 split at e
 ·cases e;cases r1;cases r2;exact .inl ⟨rfl,by simp⟩
 ·cases e;cases r1;cases r2;exact .inl ⟨rfl,by simp⟩
 ·cases e;cases r1;cases r2;exact .inl ⟨rfl,by simp⟩
 ·cases e;cases r1;cases r2;exact .inl ⟨rfl,rfl⟩
 ·cases e;cases r1;cases r2;exact .inl ⟨rfl,rfl⟩
 ·cases e;cases r1;cases r2;exact .inl ⟨rfl,rfl⟩
 ·split at e
  ·rename_i hs
   cases e
   simp only[rC]at hs
   exact .inr ⟨r1.dof hs.1,r2.dof hs.2,hs.1,hs.2,rfl⟩
  ·cases e
theorem Du{K:Frag}:jY K (MS K) kY:=nu fun d1 d2 d v1 v2 H Q e r1 r2=>by
 obtain⟨b,e',rfl⟩:=Zab.mp e
 refine⟨_,rfl,fun q=>?_⟩
 rcases Dt e' r1 r2 with⟨a,rfl⟩ |⟨a1,a2,a3,a4,rfl⟩
 ·exact .inl ⟨a,q⟩
 ·exact .inr ⟨_,_,a1,a2,a3,a4,q⟩
theorem Jd{K:Frag}:jY K (MT K) qP:=nu fun d1 d2 d v1 v2 H Q e r1 r2=>by
 obtain⟨b,e',rfl⟩:=Zab.mp e
 refine⟨_,rfl,fun q=>?_⟩
 rcases Dt e' r1 r2 with⟨a,rfl⟩ |⟨a1,a2,a3,a4,rfl⟩
 ·exact .inl ⟨a,q⟩
 ·exact .inr ⟨_,_,a1,a2,a3,a4,q⟩
def Bz(K:Frag)(r:R2)(op:PyData→PyData→Option PyData):Prop:=∀(d1 d2 d:PyData) (v1 v2:V) (H:Hp) (Q:VK),op d1 d2=some d→Rp K H v1 d1→Rp K H v2 d2→∃v,HM d=some v∧(Q v H→r v1 v2 H Q)
def tB(op op':PyData→PyData→Option PyData)(m2 m3:Bool)(f g h:ba):ba:=fun E=>(f E).bind fun a=>if (m2||m3)&&a.1.isBr then none else (g a.2).bind fun b=>if m3&&b.1.isBr then none else
 (look b.2 a.1).bind fun d1=>(look b.2 b.1).bind fun d2=>match op d1 d2 with
  |some (.bool true)=>(h b.2).bind fun c=>(look c.2 b.1).bind fun d2=>(look c.2 c.1).bind fun d3=>(op' d2 d3).map fun d=>(.sh d,c.2)
  |some (.bool false)=>some (.sh (.bool false),b.2)
  |_=>none
section
variable {X:Cx} {a b c:Expr} {m1 m2 m3:Bool} {f g h:ba} {pos:Pos}
theorem Dv(hu:X.A.units+64 < cLine)(ha:EX X a m1 f)(hb:EX X b m2 g):EX X (.Compare a [.Eq] [b] pos) (m1||m2) (ah kY m2 f g):=Dl (OpR.or HJ (Dh hu)) Du ha hb (sW _)
theorem gC(hu:X.A.units+64 < cLine)(ha:EX X a m1 f)(hb:EX X b m2 g):TX X (.Compare a [.Eq] [b] pos) (m1||m2) (d5 (ah kY m2 f g)):=tz (OpR.or HJ (Dh hu)) Du ha hb (sW _)
theorem jI(hu:X.A.units+64 < cLine)(ha:EX X a m1 f)(hb:EX X b m2 g):TX X (.Compare a [.NotEq] [b] pos) (m1||m2) (d5 (ah qP m2 f g)):=tz (OpR.or K0 (IW hu)) Jd ha hb (sW _)
theorem Dw{K:Frag}{r:R2}{op op':PyData→PyData→Option PyData}(k:Bz K r op)(k':Bz K r' op'){σ:oA}{H:Hp}{Q:VK}(z:rd K (m1||(m2||m3)) (tB op op' m2 m3 f g h) σ H Q):C3 r r' (rd K m1 f) (rd K m2 g) (rd K m3 h) σ H Q:=by
 obtain⟨B,E,xs,Xs,res,E',fr,cl,e,q⟩:=z
 obtain⟨⟨s1,E1⟩,e1,e⟩:=Za.mp e
 by_cases hb:((m2||m3)&&s1.isBr)=true
 ·rw[if_pos hb]at e;cases e
 rw[if_neg hb]at e
 obtain⟨⟨s2,E2⟩,e2,e⟩:=Za.mp e
 by_cases hb2:(m3&&s2.isBr)=true
 ·rw[if_pos hb2]at e;cases e
 rw[if_neg hb2]at e
 obtain⟨d1,l1,e⟩:=Za.mp e
 obtain⟨d2,l2,e⟩:=Za.mp e
 have n1:(m2||m3)=true→s1.isBr=false:=fun z=>by
  cases hs:s1.isBr with
  |false=>rfl
  |true=>exact absurd (by rw[z,hs];rfl) hb
 have n2:m3=true→s2.isBr=false:=fun z=>by
  cases hs:s2.isBr with
  |false=>rfl
  |true=>exact absurd (by rw[z,hs];rfl) hb2
 refine⟨B,E,xs,Xs,s1,E1,fr,fun z=>cl (by simp[z]),e1,fun v1 H1 fr1=>?_⟩
 refine⟨B,E1,v1::xs,s1::Xs,s2,E2,fr1,fun z=>Calm.cons (cl (by simp[z])) (n1 (by simp[z])),e2,fun v2 H2 ⟨F,A,fr2⟩=>?_⟩
 cases ho:op d1 d2 with
 |none=>rw[ho]at e;cases e
 |some d=>
  rw[ho]at e
  obtain⟨v,hv,kk⟩:=k d1 d2 d v1 v2 H2 (fun z H3=>∃k,z=.bl k∧(if k=true then rd K m3 h σ H3 fun w' H4=>r' v2 w' H4 Q else Q (.bl false) H3)) ho (fr2.look1 l1).1 (fr2.look0 l2).1
  cases d with
  |bool t=>
   cases hv
   refine kk ⟨t,rfl,?_⟩
   cases t with
   |true=>
    rw[if_pos rfl]
    obtain⟨⟨s3,E3⟩,e3,e⟩:=Za.mp e
    obtain⟨d2',l2',e⟩:=Za.mp e
    obtain⟨d3,l3,e⟩:=Za.mp e
    obtain⟨d,ho',e⟩:=Zab.mp e
    cases e
    refine⟨B,E2,v2::v1::xs,s2::s1::Xs,s3,E3,⟨F,A,fr2⟩,fun z=>Calm.cons (Calm.cons (cl (by simp[z])) (n1 (by simp[z]))) (n2 z),e3,fun v3 H3 ⟨F3,A3,fr3⟩=>?_⟩
    obtain⟨v,hv,kk⟩:=k' d2' d3 d v2 v3 H3 Q ho' (fr3.look1 l2').1 (fr3.look0 l3).1
    obtain⟨A4,fr4⟩:=fr3.pop
    exact kk (q v H3 (fr4.res2 ⟨rfl,v,rfl,pJ hv⟩))
   |false=>
    rw[if_neg (by decide)]
    cases e
    exact q _ _ (fr2.res2 ⟨rfl,_,rfl,.bl _⟩)
  |none=>cases e
  |int i=>cases e
  |str x=>cases e
  |list xs=>cases e
  |tuple xs=>cases e
  |dict kvs=>cases e
theorem Dx{o1 o2:CmpOp}{r:R2}{op op':PyData→PyData→Option PyData}(ho:OpR X (compareOp o1) r)(ho':OpR X (compareOp o2) r')(k:Bz X.K r op)(k':Bz X.K r' op')(ha:EX X a m1 f)(hb:EX X b m2 g)(hc:EX X c m3 h)
  (hm:lastMarks [o1,o2] [b,c]=false:=by with_unfolding_all rfl):EX X (.Compare a [o1,o2] [b,c] pos) (m1||(m2||m3)) (tB op op' m2 m3 f g h):=bA (C4 ho ho' ha hb hc hm) fun _ _ _ z=>Dw k k' z
end
end PL
variable {σ:PL.oA}
namespace PL
open PySem L2 Nh
def Dy(f g:ba):ba:=fun E=>(f E).bind fun a=>match a.1 with
 |.sh (.bool true)=>g a.2
 |.sh (.bool false)=>some (.sh (.bool false),a.2)
 |_=>none
def vS(f g:jW):jW:=fun E=>(f E).bind fun a=>if a.1 then g a.2 else some (false,a.2)
def nw(f g:jW):jW:=fun E=>(f E).bind fun a=>if a.1 then some (true,a.2)else g a.2
def eQ(f:jW):jW:=fun E=>(f E).map fun a=>(!a.1,a.2)
def oV:PyData→Option Bool
 |.none=>some false
 |.bool b=>some b
 |.int i=>some (i != 0)
 |.str x=>if x.length≤1000000 then some ((x.length:Int) != 0)else none
 |.list xs=>some (!xs.isEmpty)
 |.tuple xs=>some (!xs.isEmpty)
 |.dict _=>none
def dZ(f:ba):jW:=fun E=>(f E).bind fun a=>match a.1 with
 |.al i=>match a.2[i]? with
  |some (.od kvs)=>some (!kvs.isEmpty,a.2)
  |some s=>(s.val.bind oV).map fun b=>(b,a.2)
  |none=>none
 |s=>(s.val.bind oV).map fun b=>(b,a.2)
section
variable {X:Cx} {a b c:Expr} {eN:List Expr} {m1 m2 m3:Bool} {f g h:ba} {t u:jW} {pos:Pos} {K:Frag}
theorem Je{op}(h:EX X a m1 f):EX X (.BoolOp op [a] pos) m1 f:=Iv h
theorem Dz(ha:EX X a m1 f)(hb:EX X (.BoolOp .And (b::eN) pos) m2 g):EX X (.BoolOp .And (a::b::eN) pos) (m1||m2) (Dy f g):=by
 refine bA (Iw ha hb) fun σ H Q z=>?_
 obtain⟨B,E,xs,Xs,res,E',fr,cl,e,q⟩:=z
 obtain⟨⟨s1,E1⟩,e1,e⟩:=Za.mp e
 refine⟨B,E,xs,Xs,s1,E1,fr,fun z=>cl (by simp[z]),e1,fun v1 H1 ⟨F,A,fr1⟩=>?_⟩
 simp only at e
 split at e
 ·obtain⟨r,_⟩:=fr1.look0 (d:=.bool true) rfl
  cases r
  obtain⟨A',fr2⟩:=fr1.pop
  exact⟨true,rfl,(if_pos rfl).mpr ⟨B,E1,xs,Xs,res,E',⟨F,A',fr2⟩,fun z=>cl (by simp[z]),e,q⟩⟩
 ·cases e
  obtain⟨r,_⟩:=fr1.look0 (d:=.bool false) rfl
  cases r
  exact⟨false,rfl,(if_neg (by decide)).mpr (q _ _ ⟨F,A,fr1⟩)⟩
 ·cases e
theorem Aj(ha:TX X a m1 t):WX X (.BoolOp .And [a] pos) m1 t:=FO ha
theorem lB(ha:TX X a m1 t):WX X (.BoolOp .Or [a] pos) m1 t:=Ir ha
theorem DA(ha:TX X a m1 t)(hb:WX X (.BoolOp .And (b::eN) pos) m2 u):WX X (.BoolOp .And (a::b::eN) pos) (m1||m2) (vS t u):=by
 refine Dj (Is ha hb) fun σ H Q z=>?_
 obtain⟨B,E,xs,Xs,res,E',fr,cl,e,q⟩:=z
 obtain⟨⟨b1,E1⟩,e1,e⟩:=Za.mp e
 refine⟨B,E,xs,Xs,b1,E1,fr,fun z=>cl (by simp[z]),e1,fun H1 fr1=>?_⟩
 cases b1 with
 |true=>exact(if_pos rfl).mpr ⟨B,E1,xs,Xs,res,E',fr1,fun z=>cl (by simp[z]),e,q⟩
 |false=>cases e;exact(if_neg (by decide)).mpr (q _ fr1)
theorem pK(ha:TX X a m1 t)(hb:WX X (.BoolOp .Or (b::eN) pos) m2 u):WX X (.BoolOp .Or (a::b::eN) pos) (m1||m2) (nw t u):=by
 refine Dj (KH ha hb) fun σ H Q z=>?_
 obtain⟨B,E,xs,Xs,res,E',fr,cl,e,q⟩:=z
 obtain⟨⟨b1,E1⟩,e1,e⟩:=Za.mp e
 refine⟨B,E,xs,Xs,b1,E1,fr,fun z=>cl (by simp[z]),e1,fun H1 fr1=>?_⟩
 cases b1 with
 |true=>cases e;exact(if_pos rfl).mpr (q _ fr1)
 |false=>exact(if_neg (by decide)).mpr ⟨B,E1,xs,Xs,res,E',fr1,fun z=>cl (by simp[z]),e,q⟩
theorem tD(h:WX X a m1 t):TX X a m1 t:=PW.pt h
theorem gv(ha:TX X a m1 t):TX X (.UnaryOp .Not a pos) m1 (eQ t):=by
 refine x_ (Iu ha) fun σ H Q z=>?_
 obtain⟨B,E,xs,Xs,res,E',fr,cl,e,q⟩:=z
 obtain⟨⟨b1,E1⟩,e1,e⟩:=Zab.mp e
 cases e
 exact⟨B,E,xs,Xs,b1,E1,fr,cl,e1,fun H1 fr1=>q _ fr1⟩
theorem Jf{H:Hp}{b:Bool}(r:Rp K H v d)(e:oV d=some b):C5 K v H b:=by
 cases r with
 |non=>cases e;rfl
 |bl b=>cases e;rfl
 |int i=>cases e;rfl
 |str x=>
  simp only[oV]at e
  split at e
  ·rename_i hl
   cases e
   exact⟨gX hl,rfl⟩
  ·cases e
 |lst h r=>cases e;exact .inl ⟨_,h,by cases r <;> rfl⟩
 |tup h r=>cases e;exact .inr (.inl ⟨_,h,by cases r <;> rfl⟩)
 |dct h r=>cases e
 |exc h r=>cases e
 |fnc r=>cases e
theorem d7(ha:EX X a m1 f)(he:∀whole,isTrue a X.env whole=(do let v ←whole;standAt a.pos;holding [v] (truthy v)):=by exact fun _=>rfl):TX X a m1 (dZ f):=by
 refine x_ (C6 ha he) fun σ H Q z=>?_
 obtain⟨B,E,xs,Xs,res,E',fr,cl,e,q⟩:=z
 obtain⟨⟨s,E1⟩,e1,e⟩:=Za.mp e
 refine⟨B,E,xs,Xs,s,E1,fr,cl,e1,fun v1 H1 ⟨F,A,fr1⟩=>?_⟩
 have key:∀d,look E1 s=some d→(oV d).map (fun b=>(b,E1))=some (res,E')→∃k,C5 X.K v1 H1 k∧Q k H1:=fun d l e=>by
  obtain⟨b,e',z⟩:=Zab.mp e
  cases z
  obtain⟨A',fr2⟩:=fr1.pop
  exact⟨_,Jf (fr1.look0 l).1 e',q _ ⟨F,A',fr2⟩⟩
 have kv:(s.val.bind oV).map (fun b=>(b,E1))=some (res,E')→(∀i,s≠ .al i)→∃k,C5 X.K v1 H1 k∧Q k H1:=fun e na=>by
  obtain⟨b,e',z⟩:=Zab.mp e
  obtain⟨d,e1,e2⟩:=Za.mp e'
  refine key d ?_ (by rw[e2];exact congrArg some z)
  cases s <;> first |exact e1 |exact absurd rfl (na _)
 simp only at e
 split at e
 ·rename_i i
  split at e
  ·rename_i kvs ei
   cases e
   obtain⟨v',A1,ev,rfl,w,ew,hw⟩:=fr1.ext (k:=0) rfl
   cases ev;cases ew
   obtain⟨o,A1,eo,l,us,A2,rfl,_,hl,r⟩:=fr1.var ei
   rw[hw]at eo
   cases eo
   obtain⟨A',fr2⟩:=fr1.pop
   exact⟨_,.inr (.inr ⟨_,hl,by cases us <;> cases kvs <;> first |rfl |exact False.elim r⟩),q _ ⟨F,A',fr2⟩⟩
  ·rename_i s' _ ei
   obtain⟨b,e',z⟩:=Zab.mp e
   obtain⟨d,e1,e2⟩:=Za.mp e'
   exact key d (by simp[look,ei,e1]) (by rw[e2];exact congrArg some z)
  ·cases e
 ·rename_i na
  exact kv e na
end
def ai:nq:=fun E=>some ([],E)
def af(m2:Bool)(f:ba)(g:nq):nq:=fun E=>(f E).bind fun a=>if m2&&a.1.isBr then none else (g a.2).map fun b=>(a.1::b.1,b.2)
def cr:kX:=fun E=>some ([],E)
def aw(f:ba)(g:kX):kX:=fun E=>(f E).bind fun a=>(frz a.2 a.1).bind fun b=>(g b.2).map fun c=>(b.1::c.1,c.2)
def tE(f:kX):ba:=fun E=>(f E).bind fun a=>if a.1.length≤1000000 then some (.sh (.tuple a.1),a.2)else none
def cK(f:kX):ba:=fun E=>(f E).bind fun a=>if a.1.length≤1000000 then some (.ow a.1,a.2)else none
section
variable {X:Cx} {e:Expr} {es:List Expr} {m1 m2:Bool} {f:ba} {g:nq} {d:kX} {pos:Pos} {K:Frag}
theorem ar:AX X [] false ai:=by
 refine tv d0 fun σ H Q z=>?_
 obtain⟨B,E,xs,Xs,res,E',fr,cl,e,q⟩:=z
 cases e
 exact q [] H rfl fr
theorem ag(ha:EX X e m1 f)(hr:AX X es m2 g)(hs:starEach (e::es) X.env=(false,eval e X.env)::starEach es X.env:=by rfl):AX X (e::es) (m1||m2) (af m2 f g):=by
 refine tv (bU ha hr hs) fun σ H Q z=>?_
 obtain⟨B,E,xs,Xs,res,E',fr,cl,e,q⟩:=z
 obtain⟨⟨s,E1⟩,e1,e⟩:=Za.mp e
 by_cases hb:(m2&&s.isBr)=true
 ·rw[if_pos hb]at e;cases e
 rw[if_neg hb]at e
 obtain⟨⟨rs,E2⟩,e2,e⟩:=Zab.mp e
 cases e
 refine⟨B,E,xs,Xs,s,E1,fr,fun z=>cl (by simp[z]),e1,fun v1 H1 fr1=>?_⟩
 refine⟨B,E1,v1::xs,s::Xs,rs,E2,fr1,fun z=>Calm.cons (cl (by simp[z])) ?_,e2,fun vs H2 hl fr2=>?_⟩
 ·cases hs:s.isBr with
  |false=>rfl
  |true=>exact absurd (by simp[z,hs]) hb
 ·exact q (v1::vs) H2 (by simp[hl]) (by simpa using fr2)
theorem DB:DX X [] false cr:=by
 refine tv d0 fun σ H Q z=>?_
 obtain⟨B,E,xs,Xs,res,E',fr,cl,e,q⟩:=z
 cases e
 exact q [] H rfl fr
theorem Ak(ha:EX X e m1 f)(hr:DX X es m2 d)(hs:starEach (e::es) X.env=(false,eval e X.env)::starEach es X.env:=by rfl):DX X (e::es) (m1||m2) (aw f d):=by
 refine tv (bU ha hr hs) fun σ H Q z=>?_
 obtain⟨B,E,xs,Xs,res,E',fr,cl,e,q⟩:=z
 obtain⟨⟨s,E1⟩,e1,e⟩:=Za.mp e
 obtain⟨⟨d1,E2⟩,e2,e⟩:=Za.mp e
 obtain⟨⟨rs,E3⟩,e3,e⟩:=Zab.mp e
 cases e
 refine⟨B,E,xs,Xs,s,E1,fr,fun z=>cl (by simp[z]),e1,fun v1 H1 ⟨F,A,fr1⟩=>?_⟩
 obtain⟨F2,A2,fr2⟩:=fr1.frz0 e2
 refine⟨B,E2,v1::xs,.sh d1::Xs,rs,E3,⟨F2,A2,fr2⟩,fun z=>Calm.cons (cl (by simp[z])) rfl,e3,fun vs H2 hl fr2=>?_⟩
 exact q (v1::vs) H2 (by simp[hl]) (by simpa using fr2)
theorem FrF.shsR{B:Hp}{H:Hp}:∀{us:List V} {es:List PyData} {A:List Addr},us.length=es.length→FrF K B F A σ H E (us++xs) (es.map .sh++Xs)→RpA K F us es∧∃A',FrF K B F A' σ H E xs Xs
 |[],[],A,_,h=>⟨.nil,A,h⟩
 |u::us,e::es,A,hl,h=>by
  obtain⟨v,A1,ev,rfl,w,ew,r⟩:=h.ext (k:=0) rfl
  cases ev;cases ew
  obtain⟨A',h'⟩:=FrF.pop (xs:=us++xs) (Xs:=es.map .sh++Xs) h
  obtain⟨r',q⟩:=FrF.shsR (by simpa using hl) h'
  exact⟨.cons r r',q⟩
 |[],_::_,_,e,_=>by cases e
 |_::_,[],_,e,_=>by cases e
theorem FrF.shs{B:Hp}{H:Hp}{us:List V}{es:List PyData}{A:List Addr}(hl:us.length=es.length)(h:FrF K B F A σ H E (us.reverse++xs) (es.reverse.map .sh++Xs)):RpA K F us es∧∃A',FrF K B F A' σ H E xs Xs:=by
 obtain⟨r,q⟩:=FrF.shsR (by simpa using hl) h
 have:=r.rev
 rw[List.reverse_reverse,List.reverse_reverse]at this
 exact⟨this,q⟩
theorem Jg{x1}(h:DX X es m1 d):EX X (.Tuple es x1 pos) m1 (tE d):=by
 refine bA (IQ h) fun σ H Q z=>?_
 obtain⟨B,E,xs,Xs,res,E',fr,cl,e,q⟩:=z
 obtain⟨⟨ds,E1⟩,e1,e⟩:=Za.mp e
 simp only at e
 split at e
 ·rename_i hl
  cases e
  refine⟨B,E,xs,Xs,ds,_,fr,cl,e1,fun vs H1 hv ⟨F,A,fr1⟩=>?_⟩
  obtain⟨r,A',fr2⟩:=fr1.shs hv
  exact⟨gX (by omega),fun p hp=>q _ _ ⟨_,_,fr2.newt r hp⟩⟩
 ·cases e
theorem DC(h:DX X es m1 d):EX X (.List es pos) m1 (cK d):=by
 refine bA (IR h) fun σ H Q z=>?_
 obtain⟨B,E,xs,Xs,res,E',fr,cl,e,q⟩:=z
 obtain⟨⟨ds,E1⟩,e1,e⟩:=Za.mp e
 simp only at e
 split at e
 ·rename_i hl
  cases e
  refine⟨B,E,xs,Xs,ds,_,fr,cl,e1,fun vs H1 hv ⟨F,A,fr1⟩=>?_⟩
  obtain⟨r,A',fr2⟩:=fr1.shs hv
  exact⟨gX (by omega),fun p hp=>q _ _ ⟨_,_,fr2.newl r hp⟩⟩
 ·cases e
end
def BA(ds:List PyData)(lo hi:Option Int):List PyData:=(ds.drop (HT.qO ds.length 0 lo)).take (HT.qO ds.length ds.length hi - HT.qO ds.length 0 lo)
def m5:P2:=fun E s1 s2=>(look E s1).bind fun d1=>(look E s2).bind fun d2=>match d2 with
 |.int i=>match d1 with
  |.list ds=>(atI ds i).map fun d=>(if pH E s1&& !fL d then .br d else .sh d,E)
  |.tuple ds=>(atI ds i).map fun d=>(if pH E s1&& !fL d then .br d else .sh d,E)
  |.str z=>if z.length≤1000000 then (atI z.cps.toList i).map fun c=>(.sh (.str ⟨#[c]⟩),E)else none
  |_=>none
 |_=>none
section
variable {K:Frag} {H:Hp}
theorem RpA.atI{i:Int}(h:RpA K H vs ds)(e:L2.atI ds i=some d):∃v,L2.atI vs i=some v∧Rp K H v d:=by
 unfold L2.atI at e ⊢
 obtain⟨j,e1,e2⟩:=Za.mp e
 obtain⟨v,ev,r⟩:=h.get e2
 exact⟨v,by rw[h.len,e1];exact ev,r⟩
theorem FrF.item{B:Hp}{A:List Addr}(fr:FrF K B F A σ H E (v2::v1::xs) (s2::s1::Xs))(r:Rp K H v d)(f:pH E s1=false→Rp K F v d):
  Frm K B σ H E (v::xs) ((if pH E s1&& !fL d then .br d else .sh d)::Xs):=by
 by_cases hc:(pH E s1&& !fL d)=true
 ·rw[if_pos hc]
  exact fr.res2 ⟨rfl,v,rfl,r⟩
 ·rw[if_neg hc]
  refine fr.res2 ⟨rfl,v,rfl,?_⟩
  cases hh:pH E s1 with
  |false=>exact f hh
  |true=>
   rw[hh]at hc
   exact fr.cold r (by simpa using hc)
theorem Jh:jY K (Np K) m5:=by
 intro B F A σ H E xs Xs v1 v2 s1 s2 res E' Q fr e q
 obtain⟨d1,e1,e⟩:=Za.mp e
 obtain⟨d2,e2,e⟩:=Za.mp e
 obtain⟨r1,f1⟩:=fr.look1 e1
 have r2:=(fr.look0 e2).1
 split at e
 ·cases r2
  split at e
  ·obtain⟨d,ed,e⟩:=Zab.mp e
   cases e
   cases hh:pH E s1 with
   |false=>
    obtain⟨a,vs,rfl,h1,h2⟩:=f1 hh
    obtain⟨v,ev,rv⟩:=h2.atI ed
    have z:=fr.item (rv.same fr.fh) fun _=>rv
    rw[hh]at z q
    exact .inl ⟨_,_,_,v,rfl,rfl,h1,ev,q _ _ z⟩
   |true=>
    cases r1 with
    |lst h1 h2=>
     obtain⟨v,ev,rv⟩:=h2.atI ed
     have z:=fr.item rv fun h=>absurd (hh.symm.trans h) (by decide)
     rw[hh]at z q
     exact .inl ⟨_,_,_,v,rfl,rfl,h1,ev,q _ _ z⟩
  ·obtain⟨d,ed,e⟩:=Zab.mp e
   cases e
   cases hh:pH E s1 with
   |false=>
    have h0:Rp K F v1 _:=f1 hh
    cases h0 with
    |tup h1 h2=>
     obtain⟨v,ev,rv⟩:=h2.atI ed
     have z:=fr.item (rv.same fr.fh) fun _=>rv
     rw[hh]at z q
     exact .inr (.inl ⟨_,_,_,v,rfl,rfl,fr.fh.tup h1,ev,q _ _ z⟩)
   |true=>
    cases r1 with
    |tup h1 h2=>
     obtain⟨v,ev,rv⟩:=h2.atI ed
     have z:=fr.item rv fun h=>absurd (hh.symm.trans h) (by decide)
     rw[hh]at z q
     exact .inr (.inl ⟨_,_,_,v,rfl,rfl,h1,ev,q _ _ z⟩)
  ·split at e
   ·rename_i hl
    obtain⟨c,ec,e⟩:=Zab.mp e
    cases e;cases r1
    exact .inr (.inr ⟨_,_,c,rfl,rfl,gX hl,ec,q _ _ (fr.res2 ⟨rfl,_,rfl,.str _⟩)⟩)
   ·cases e
  ·cases e
 ·cases e
end
end PL
namespace L2
open PySem PySem.Spec PyProof.Rows
section
variable {P:Program} {w:World} {H:Hp} {h:Heap} {a:Addr}
theorem Lj{u:HO}(ok:HOk P w H h)(e:Rd H a u):ObjOk P w H h a u:=e.ok ok
theorem Lk{kvs:List (jS×V)}(ok:HOk P w H h)(e:Rd H a (.dK kvs)):kvs.length≤sizeLine∧(a == sysModules)=false∧∃vs,KV kvs vs∧h.DictOf (pc P w) a vs:=
 show ObjOk P w H h a (.dK kvs)from Lj ok e
end
section
variable {X:Cx} {pins:List (Addr×Obj)} {σ:St} {H:Hp} {s:Shared} {a:Addr} {y v:V} {u r:Value} {o:Option V} {A:Around} {E:Value→Shared→Prop}
theorem Inv.big(I:Inv X pins σ H s):sysModules < s.heap.objs.size:=by
 have h:mainGlobals < s.heap.objs.size:=(I.mod.glob.keeps I.bk).lt
 exact Nat.lt_trans (by decide) h
end
theorem DE{w:World}{H:Hp}(h:Heap)(hb:sysModules < h.objs.size):ObjOk P w H (h.push {cls:=.type "dict",data:=.dict #[]}) h.objs.size (.dK []):=
 ⟨zz9 _,beq_eq_false_iff_ne.mpr (Ne.symm (gS hb)),[],.nil,Heap.DictOf.new h⟩
def Ji:TE:=fun _ H Q=>∀p,H p=none→Q (.ref p) (upd H p (.dK []))
section
variable {X:Cx} {pos:Pos}
theorem DF:PE X (.Dict [] [] pos) Ji:=fun pins s σ H Q I h=>
 wpAny_Dict_empty ⟨.ref s.heap.objs.size,_,I.laid (a:=s.heap.objs.size) (o:=.dK []) (t':=s.toks) (fun _ _ q=>gD _ q) (fz _) (DE s.heap I.big),rfl,h _ (I.hok.fresh (fz _))⟩
end
end L2
namespace PL
open PySem L2 Nh
theorem gY{a b:Expr}{m2:Bool}{g:ba}{pos:Pos}(ha:EX X a m1 f)(hb:EX X b m2 g)(hs:z_ b:=by exact fun _ _=>rfl):EX X (.Subscript a b pos) (m1||m2) (ah m5 m2 f g):=bA (La IT ha hb hs) fun _ _ _ h=>tw Jh h
abbrev Jj:=List Sl→Option (Option Int×List Sl)
def ro(K:Frag)(m:Bool)(f:Jj):TO:=fun σ H Q=>∃B E xs Xs o E',Frm K B σ H E xs Xs∧(m=true→Calm Xs)∧f E=some (o,E')∧∀H',Frm K B σ H' E' xs Xs→Q o H'
def OX(X:Cx)(e:Option Expr)(m:Bool)(f:Jj):Prop:=PO X e (ro X.K m f)
def pL:Jj:=fun E=>some (none,E)
def gf(f:ba):Jj:=fun E=>(f E).bind fun a=>match look a.2 a.1 with
 |some (.int i)=>some (some i,a.2)
 |_=>none
section
variable {X:Cx} {e:Expr} {lo hi:Option Expr} {m1 m2 m3:Bool} {f:ba} {g h:Jj} {pos p2:Pos} {K:Frag}
theorem DG{e:Option Expr}{t t':TO}(h:PO X e t)(k:∀σ H Q,t' σ H Q→t σ H Q):PO X e t':=fun pins s σ H Q I q=>h pins s σ H Q I (k σ H Q q)
theorem Al:OX X none false pL:=DG F8 fun σ H Q z=>by
 obtain⟨B,E,xs,Xs,res,E',fr,cl,e,q⟩:=z
 cases e
 exact q _ fr
theorem kI(he:EX X e m1 f):OX X (some e) m1 (gf f):=DG (F_ he) fun σ H Q z=>by
 obtain⟨B,E,xs,Xs,res,E',fr,cl,e,q⟩:=z
 obtain⟨⟨s,E1⟩,e1,e⟩:=Za.mp e
 refine⟨B,E,xs,Xs,s,E1,fr,cl,e1,fun v1 H1 ⟨F,A,fr1⟩=>?_⟩
 simp only at e
 split at e
 ·rename_i i l
  cases e
  have r:=(fr1.look0 l).1
  cases r
  obtain⟨A',fr2⟩:=fr1.pop
  exact⟨i,rfl,q _ ⟨F,A',fr2⟩⟩
 ·cases e
theorem RpA.cut(h:RpA K F vs ds)(lo hi:Option Int):RpA K F (Bv vs lo hi) (BA ds lo hi):=by
 unfold Bv BA
 rw[h.len]
 exact(h.drop _).take _
end
def fq(E:List Sl):List Sl→Option (List PyData)
 |[]=>some []
 |s::ss=>(look E s).bind fun d=>(fq E ss).map fun ds=>d::ds
theorem lookA_iff:∀{ss:List Sl} {ds:List PyData},fq E ss=some ds↔Paired (fun s d=>look E s=some d) ss ds
 |[],ds=>⟨fun h=>by cases h;exact .nil,fun h=>by cases h;rfl⟩
 |s::ss,ds=>by
  constructor
  ·intro h
   obtain⟨d,h1,h⟩:=Za.mp h
   obtain⟨es,h2,h⟩:=Zab.mp h
   cases h
   exact .cons h1 (lookA_iff.mp h2)
  ·intro h
   cases h with
   |cons h1 h2=>simp[fq,h1,lookA_iff.mpr h2]
theorem BB(h:fq E ss=some ds):fq E ss.reverse=some ds.reverse:=lookA_iff.mpr (ly (lookA_iff.mp h))
section
variable {X:Cx} {K:Frag} {B F:Hp} {σ:oA} {H:Hp} {E:List Sl} {xs:List V} {Xs:List Sl}
theorem FrF.looksR:∀{us:List V} {ts:List Sl} {es:List PyData} {A:List Addr},us.length=ts.length→FrF K B F A σ H E (us++xs) (ts++Xs)→fq E ts=some es→RpA K H us es∧∃A',FrF K B F A' σ H E xs Xs
 |[],[],es,A,_,h,e=>by cases e;exact⟨.nil,A,h⟩
 |u::us,t::ts,es,A,hl,h,e=>by
  obtain⟨d,h1,e⟩:=Za.mp e
  obtain⟨es',h2,e⟩:=Zab.mp e
  cases e
  have r:=(FrF.look0 (xs:=us++xs) (Xs:=ts++Xs) h h1).1
  obtain⟨A',h'⟩:=FrF.pop (xs:=us++xs) (Xs:=ts++Xs) h
  obtain⟨r',q⟩:=FrF.looksR (by simpa using hl) h' h2
  exact⟨.cons r r',q⟩
 |[],_::_,_,_,e,_,_=>by cases e
 |_::_,[],_,_,e,_,_=>by cases e
theorem FrF.looks{us:List V}{ts:List Sl}{es:List PyData}{A:List Addr}(hl:us.length=ts.length)(h:FrF K B F A σ H E (us.reverse++xs) (ts.reverse++Xs))(e:fq E ts=some es):RpA K H us es∧∃A',FrF K B F A' σ H E xs Xs:=by
 obtain⟨r,q⟩:=FrF.looksR (by simpa using hl) h (BB e)
 have:=r.rev
 rw[List.reverse_reverse,List.reverse_reverse]at this
 exact⟨this,q⟩
end
def DH(K:Frag)(r:List V→Hp→VK→Prop)(op:List PyData→Option PyData):Prop:=∀(ds:List PyData) (d:PyData) (vs:List V) (H:Hp) (Q:VK),op ds=some d→RpA K H vs ds→∃v,HM d=some v∧(Q v H→r vs H Q)
def cb(op:List PyData→Option PyData)(g:nq):ba:=fun E=>(g E).bind fun a=>(fq a.2 a.1).bind fun ds=>(op ds).map fun d=>(.sh d,a.2)
theorem Jk{K:Frag}{r:List V→Hp→VK→Prop}{op:List PyData→Option PyData}(hp:DH K r op){g:nq}{H:Hp}{Q:VK}(h:rd K m (cb op g) σ H Q):MK r (ra K m g) σ H Q:=by
 obtain⟨B,E,xs,Xs,res,E',fr,cl,e,q⟩:=h
 obtain⟨⟨rs,E1⟩,e1,e⟩:=Za.mp e
 obtain⟨ds,e2,e⟩:=Za.mp e
 obtain⟨d,e3,e⟩:=Zab.mp e
 cases e
 refine⟨B,E,xs,Xs,rs,E1,fr,cl,e1,fun vs H1 hl ⟨F,A,fr1⟩=>?_⟩
 obtain⟨r1,A',fr2⟩:=fr1.looks hl e2
 obtain⟨v,hv,k⟩:=hp ds d vs H1 Q e3 r1
 exact k (q v H1 ⟨F,A',fr2.push ⟨rfl,v,rfl,pJ hv⟩⟩)
def d8:List PyData→Option PyData
 |[.list xs]=>some (.int xs.length)
 |[.tuple xs]=>some (.int xs.length)
 |[.str z]=>if z.length≤1000000 then some (.int z.length)else none
 |_=>none
def vT:List PyData→Option PyData
 |[.int i]=>some (.int (if i < 0 then -i else i))
 |_=>none
theorem RpA.one{K:Frag}{H:Hp}(h:RpA K H vs [d]):∃v,vs=[v]∧Rp K H v d:=by
 cases h with
 |cons h t=>cases t;exact⟨_,rfl,h⟩
theorem RpA.two{K:Frag}{H:Hp}{e:PyData}(h:RpA K H vs [d,e]):∃v u,vs=[v,u]∧Rp K H v d∧Rp K H u e:=by
 cases h with
 |cons h t=>
  obtain⟨u,rfl,r⟩:=t.one
  exact⟨_,_,rfl,h,r⟩
section
variable {X:Cx} {e:Expr} {es:List Expr} {m1:Bool} {g:nq} {p pos:Pos} {K:Frag}
abbrev Ll(K:Frag):List V→Hp→VK→Prop:=fun xs H Q=>(∃p ys,xs=[.ref p]∧(SqL K H p ys∨SqT K H p ys)∧Q (.int ys.length) H)∨(∃z,xs=[.str z]∧z.length≤sizeLine∧Q (.int z.length) H)
theorem Gw:DH K (Ll K) d8:=fun ds d vs H Q e r=>by
 unfold d8 at e
 split at e
 ·cases e
  obtain⟨v,rfl,r'⟩:=r.one
  cases r' with
  |lst h1 h2=>exact⟨_,rfl,fun q=>.inl ⟨_,_,rfl,.inl h1,by rw[h2.len];exact q⟩⟩
 ·cases e
  obtain⟨v,rfl,r'⟩:=r.one
  cases r' with
  |tup h1 h2=>exact⟨_,rfl,fun q=>.inl ⟨_,_,rfl,.inr h1,by rw[h2.len];exact q⟩⟩
 ·split at e
  ·rename_i hl
   cases e
   obtain⟨v,rfl,r'⟩:=r.one
   cases r'
   exact⟨_,rfl,fun q=>.inr ⟨_,rfl,gX hl,q⟩⟩
  ·cases e
 ·cases e
theorem mj{id:String} {r:List V→Hp→VK→Prop} {op:List PyData→Option PyData} (hp:DH X.K r op) (hc:CallR X (.builtin id) r) (hg:Gl X x) (hm:X.mg x=none) (hv:bootBuiltins x=some (.builtin id)) (ha:AX X (e::es) m1 g) (hn:x≠"__name__":=by decide) (hdb:(x == ("__debug__":Str))=false:=by decide)
  (he:starEach (e::es) X.env=(false,eval e X.env)::starEach es X.env:=by rfl) (hpl:(backTo pos (starEach es X.env)).any (·.1)=false:=by rfl):EX X (.Call (.Name x p) (e::es) [] pos) m1 (cb op g):=
 bA (jU hc hg hm hv ha hn hdb he hpl) fun _ _ _ h=>Jk hp h
theorem fb(hg:Gl X "len") (hm:X.mg "len"=none) (ha:AX X [e] m1 g) (he:starEach [e] X.env=[(false,eval e X.env)]:=by rfl):EX X (.Call (.Name "len" p) [e] [] pos) m1 (cb d8 g):=mj Gw (CallR.or s_ td) hg hm PySem.boot_len ha (by decide) (by decide) he rfl
theorem Jl(hg:Gl X "abs") (hm:X.mg "abs"=none) (ha:AX X [e] m1 g) (he:starEach [e] X.env=[(false,eval e X.env)]:=by rfl):EX X (.Call (.Name "abs" p) [e] [] pos) m1 (cb vT g):=mj (fun ds d vs H Q e r=>by
 unfold vT at e
 split at e
 ·cases e
  obtain⟨v,rfl,r'⟩:=r.one
  cases r'
  exact⟨_,rfl,fun q=>⟨_,rfl,q⟩⟩
 ·cases e) C7 hg hm PyProof.Rows.boot_abs ha (by decide) (by decide) he rfl
end
def pM(g:ba):ba:=fun E=>(g E).bind fun a=>match look a.2 a.1 with
 |some (.list ds)=>if !pH a.2 a.1||bL ds then some (.ow ds,a.2)else none
 |some (.tuple ds)=>if !pH a.2 a.1||bL ds then some (.ow ds,a.2)else none
 |_=>none
section
variable {X:Cx} {e:Expr} {m1:Bool} {f:ba} {p pos:Pos} {K:Frag}
theorem Gx(hg:Gl X "list") (hm:X.mg "list"=none) (ha:EX X e m1 f) (he:starEach [e] X.env=[(false,eval e X.env)]:=by rfl):EX X (.Call (.Name "list" p) [e] [] pos) m1 (pM f):=by
 refine bA (rK ti hg hm PyProof.Rows.boot_list (bU ha d0 he) (by decide) (by decide) he rfl) fun σ H Q z=>?_
 obtain⟨B,E,xs,Xs,res,E',fr,cl,e,q⟩:=z
 obtain⟨⟨s,E1⟩,e1,e⟩:=Za.mp e
 refine⟨B,E,xs,Xs,s,E1,fr,cl,e1,fun v1 H1 ⟨F,A,fr1⟩=>?_⟩
 obtain⟨A',fr2⟩:=fr1.pop
 simp only at e
 split at e
 ·rename_i ds ld
  split at e
  ·rename_i hc
   cases e
   obtain⟨a,vs,ev,h1,h2⟩:=fr1.items (k:=0) rfl ld hc
   cases ev
   exact⟨a,vs,rfl,.inl h1,fun l hl=>q _ _ ⟨F,_,fr2.newl h2 hl⟩⟩
  ·cases e
 ·rename_i ds ld
  split at e
  ·rename_i hc
   cases e
   obtain⟨r,f0⟩:=fr1.look0 ld
   cases hh:pH E' s with
   |false=>
    have h0:Rp X.K F v1 _:=f0 hh
    cases h0 with
    |tup h1 h2=>exact⟨_,_,rfl,.inr (fr1.fh.tup h1),fun l hl=>q _ _ ⟨F,_,fr2.newl h2 hl⟩⟩
   |true=>
    rw[hh]at hc
    cases r with
    |tup h1 h2=>exact⟨_,_,rfl,.inr h1,fun l hl=>q _ _ ⟨F,_,fr2.newl (fr1.coldA h2 (by simpa using hc)) hl⟩⟩
  ·cases e
 ·cases e
end
inductive Ty where
 |non |bool |int |str |list |tuple |dict
def Ty.name:Ty→String
 |.non=>"NoneType"
 |.bool=>"bool"
 |.int=>"int"
 |.str=>"str"
 |.list=>"list"
 |.tuple=>"tuple"
 |.dict=>"dict"
def Ty.is:Ty→Ty→Bool
 |.non,.non=>true
 |.bool,.bool=>true
 |.bool,.int=>true
 |.int,.int=>true
 |.str,.str=>true
 |.list,.list=>true
 |.tuple,.tuple=>true
 |.dict,.dict=>true
 |_,_=>false
def Mj:PyData→Ty
 |.none=>.non
 |.bool _=>.bool
 |.int _=>.int
 |.str _=>.str
 |.list _=>.list
 |.tuple _=>.tuple
 |.dict _=>.dict
theorem Lm(K:Frag)(t n:Ty):kitOne K (.type t.name) (.type n.name)=some (t.is n):=by cases t <;> cases n <;> rfl
def oW(n:Ty):PyData→Option PyData
 |.dict ((.none,_)::_)=>none
 |d=>some (.bool ((Mj d).is n))
section
variable {X:Cx} {e:Expr} {m1:Bool} {f:ba} {p p2 pos:Pos}
theorem BC{s:Shared}{H:Hp}{x:V}{u:Value}{r:PyData}{n:Ty}{A:Around}{E:Value→Shared→Prop}(I:Inv X pins σ H s)(rx:RelV x u)(rp:Rp X.K H x d)(hd:oW n d=some r)(h:∀tk b,r=.bool b→Q (.bool b) {s with toks:=tk}):
  wpAny (model X.prog X.w) A (call (.builtin "isinstance") [u,.type n.name]) Q E s:=by
 have e:=Lm X.K (Mj d) n
 have h:∀tk,r=.bool ((Mj d).is n)→Q (.bool ((Mj d).is n)) {s with toks:=tk}:=fun tk z=>h tk _ z
 cases rp with
 |non=>cases hd;exact kG I rx .non e fun tk=>h tk rfl
 |bl b=>cases hd;exact kG I rx (.bl b) e fun tk=>h tk rfl
 |int i=>cases hd;exact kG I rx (.int i) e fun tk=>h tk rfl
 |str y=>cases hd;exact kG I rx (.str y) e fun tk=>h tk rfl
 |lst h1 _=>
  cases hd
  cases rx
  obtain⟨its,rv,⟨o,n',e1,c,_,d⟩,_⟩:=I.list h1
  exact kia_one kitx_list I.kIn ⟨_,e1,c⟩ e (fun z=>nomatch z) fun tk=>h tk rfl
 |tup h1 _=>
  cases hd
  cases rx
  obtain⟨its,rv,⟨o,e1,c,n',d⟩,_⟩:=I.tuple h1
  exact kia_one PySem.W.kitx_tuple I.kIn ⟨_,e1,c⟩ e (fun z=>nomatch z) fun tk=>h tk rfl
 |dct h1 hk=>
  cases rx
  obtain⟨_,_,vs,_,ob,es,ep,e1,c,_⟩:=Lk I.hok h1
  refine kia_one kitx_dict I.kIn ⟨_,e1,c.1⟩ e (fun z=>nomatch z) fun tk=>h tk ?_
  cases hk with
  |nil=>cases hd;rfl
  | @cons k x us d kvs a b=>cases k <;> (cases hd;rfl)
 |exc h1 h2=>cases hd
 |fnc r=>cases hd
theorem BD(n:Ty):CallR X (.builtin "isinstance") (fun xs H Q=>∃x d r,xs=[x,.ty n.name]∧Rp X.K H x d∧oW n d=some r∧∀b,r=.bool b→Q (.bl b) H):=by
 intro pins s σ H xs us Q I r h
 obtain⟨x,d,r',rfl,rp,hd,q⟩:=h
 obtain⟨u,w',rfl,ru,rw'⟩:=r.two
 cases(show w'=Value.type n.name from rw')
 exact BC I ru rp hd fun tk b z=>⟨.bl _,H,I.tok _,rfl,q b z⟩
theorem lC(n:Ty) (hg:Gl X "isinstance") (hm:X.mg "isinstance"=none) (ha:EX X e m1 f)  (hgx:Gl X x) (hmx:X.mg x=none) (hbx:bootBuiltins x=some (.type n.name)) (hnx:x≠"__name__":=by decide) (hdx:(x == ("__debug__":Str))=false:=by decide)
  (he:starEach [e,.Name x p2] X.env=(false,eval e X.env)::starEach [.Name x p2] X.env:=by rfl) (he2:starEach [.Name x p2] X.env=[(false,eval (.Name x p2) X.env)]:=by rfl) (hpl:(backTo pos (starEach [.Name x p2] X.env)).any (·.1)=false:=by rfl):
  EX X (.Call (.Name "isinstance" p) [e,.Name x p2] [] pos) m1 (lA (oW n) f):=by
 have h2:PE X (.Name x p2) (tC (.ty n.name)):=zR (v:=.ty n.name) hgx hmx hbx rfl hnx hdx
 refine bA (jU (BD n) hg hm PyProof.Rows.boot_isinstance (bU ha (bU h2 d0 he2) he) (by decide) (by decide) he hpl) fun σ H Q z=>?_
 obtain⟨B,E,xs,Xs,res,E',fr,cl,e,q⟩:=z
 obtain⟨⟨s,E1⟩,e1,e⟩:=Za.mp e
 obtain⟨d1,e2,e⟩:=Za.mp e
 obtain⟨d2,e3,e⟩:=Zab.mp e
 cases e
 refine⟨B,E,xs,Xs,s,E1,fr,cl,e1,fun v1 H1 ⟨F,A,fr1⟩=>?_⟩
 obtain⟨A',fr2⟩:=fr1.pop
 exact⟨v1,d1,d2,rfl,(fr1.look0 e2).1,e3,fun b z=>q _ _ ⟨F,A',fr2.push ⟨rfl,_,rfl,z▸ .bl b⟩⟩⟩
end
end PL
namespace PL
open PySem L2 Nh
def Am(K:Frag)(H H':Hp)(v:V):Sl→Prop
 |.sh d=>Rp K (tups H') v d
 |.ow ds=>∃l vs,v=.ref l∧H l=none∧H' l=some (.lst vs)∧RpA K (tups H') vs ds
 |.tx ps=>∃t vs A,v=.ref t∧tups H' t=some (.tup vs)∧A.Nodup∧(∀a∈A,H a=none)∧PtsOk K (tups H') H' vs ps A
 |.od kvs=>∃l us A,v=.ref l∧(l::A).Nodup∧(∀a∈l::A,H a=none)∧H' l=some (.dK us)∧DlOk K (tups H') H' us kvs A
 |.br d=>Rp K H' v d
 |_=>False
def gw(K:Frag)(c:List PyData→Option Sl):Sp:=fun vs H Q _=>∃ds r,c ds=some r∧RpA K H vs ds∧∀v H',Same H H'→Am K H H' v r→Q v H'
section
variable {K:Frag} {B F:Hp} {A N:List Addr} {σ:oA} {H H':Hp} {E:List Sl} {xs:List V} {Xs:List Sl} {v:V} {s:Sl}
theorem FrF.growN(h:FrF K B F A σ H E xs Xs)(g:Same H H')(hN:∀a∈N,H a=none∧((∃us,H' a=some (.lst us))∨∃us,H' a=some (.dK us))):FrF K B (fun b=>if b∈N then none else if b∈A then none else H' b) A σ H' E xs Xs:=by
 have h1:=h.grow g
 have nF:∀b o,F b=some o→b∉N:=fun b o e hb=>by
  have:=h.fh.free (hN b hb).1
  rw[this]at e;cases e
 have FF:Same F (fun b=>if b∈N then none else if b∈A then none else H' b):=fun b o e=>by
  have nA:b∉A:=fun hb=>by rw[h.fr b hb]at e;cases e
  show(if b∈N then none else if b∈A then none else H' b)=some o
  rw[if_neg (nF b o e),if_neg nA]
  exact g _ _ (h.fh _ _ e)
 have hA:∀b∈A,H' b=H b:=fun b hb=>by
  rcases h.mutA b hb with⟨_,z⟩ |⟨_,z⟩ <;> rw[z,g _ _ z]
 refine⟨h.bf.trans FF,fun b o e=>?_,fun b o e=>?_,h.sl.mono fun o s C _ hC q=>q.stay FF (fun b hb=>hA b (hC b hb)) fun _=>g,h.nd,fun a ha=>?_,h.len,h.pl⟩
 ·by_cases hb:b∈N
  ·rw[if_pos hb]at e;cases e
  ·rw[if_neg hb]at e;exact h1.fh _ _ e
 ·show(if b∈N then none else if b∈A then none else H' b)=some o
  by_cases hb:b∈N
  ·obtain⟨e1,e2⟩:=Option.filter_eq_some_iff.mp e
   rcases(hN b hb).2 with⟨us,z⟩ |⟨us,z⟩ <;> rw[z]at e1 <;> cases e1 <;> cases e2
  ·rw[if_neg hb];exact h1.tf _ _ e
 ·show(if a∈N then none else if a∈A then none else H' a)=none
  by_cases hb:a∈N
  ·rw[if_pos hb]
  ·rw[if_neg hb,if_pos ha]
theorem FrF.pushR(h:FrF K B F A σ H E xs Xs)(q:SlOk K F H σ (some v) s N)(nd:N.Nodup)(dj:∀a∈N,a∉A)(fr:∀a∈N,F a=none):FrF K B F (N++A) σ H E (v::xs) (s::Xs):=
 ⟨h.bf,h.fh,h.tf,.cons q h.sl,List.nodup_append.mpr ⟨nd,h.nd,fun a ha b hb e=>dj a ha (e▸hb)⟩,fun a ha=>(Zah.mp ha).elim (fr a) (h.fr a),by simp[h.len],h.pl⟩
theorem FrF.told(h:FrF K B F A σ H E xs Xs)(g:Same H H')(q:Am K H H' v s):Frm K B σ H' E (v::xs) (s::Xs):=by
 cases s with
 |sh d=>
  have h1:=h.grow g
  exact⟨_,_,h1.push ⟨rfl,v,rfl,Rp.same h1.tf q⟩⟩
 |ow ds=>
  obtain⟨l,vs,rfl,hl,hl',r⟩:=q
  have h1:=h.growN (N:=[l]) g fun a ha=>by rw[Zaf.mp ha];exact⟨hl,.inl ⟨vs,hl'⟩⟩
  exact⟨_,_,h1.pushR (N:=[l]) ⟨l,vs,rfl,rfl,hl',r.same h1.tf⟩ (by simp) (fun a ha=>by rw[Zaf.mp ha];exact h.newA hl) fun a ha=>if_pos ha⟩
 |tx ps=>
  obtain⟨t,vs,N,rfl,ht,nd,hN,r⟩:=q
  have h1:=h.growN (N:=N) g fun a ha=>⟨hN a ha,.inl (r.some a ha)⟩
  exact⟨_,_,h1.pushR (N:=N) ⟨t,vs,rfl,h1.tf _ _ ht,r.stay h1.tf fun _ _=>rfl⟩ nd (fun a ha=>h.newA (hN a ha)) fun a ha=>if_pos ha⟩
 |no=>exact False.elim q
 |od kvs=>
  obtain⟨l,us,N,rfl,nd,hN,hl,r⟩:=q
  have h1:=h.growN (N:=l::N) g fun a ha=>⟨hN a ha,(Zag.mp ha).elim (fun z=>.inr ⟨us,z▸hl⟩) fun z=>.inl (r.some a z)⟩
  exact⟨_,_,h1.pushR (N:=l::N) ⟨l,us,N,rfl,rfl,hl,r.stay h1.tf fun _ _=>rfl⟩ nd (fun a ha=>h.newA (hN a ha)) fun a ha=>if_pos ha⟩
 |al i=>exact False.elim q
 |br d=>
  have h1:=h.grow g
  exact⟨_,_,h1.push ⟨rfl,v,rfl,q⟩⟩
end
def am(c:List PyData→Option Sl)(g:nq):ba:=fun E=>(g E).bind fun a=>(fq a.2 a.1).bind fun ds=>(c ds).map fun r=>(r,a.2)
theorem yA{pos:Pos}{es:List Expr}{g:nq}(D:Own X.prog X.w X.K X.mg X.base k x ps (gw X.K c))(hr:Room k X.A)(hg:Gl X x)(ha:AX X (e::es) m g)
  (hdb:(x == ("__debug__":Str))=false:=by decide) (he:starEach (e::es) X.env=(false,eval e X.env)::starEach es X.env:=by rfl) (hpl:(backTo pos (starEach es X.env)).any (·.1)=false:=by rfl):
  EX X (.Call (.Name x p) (e::es) [] pos) m (am c g):=by
 refine bA (IZ D hr hg ha hdb he hpl) fun σ H Q z=>?_
 obtain⟨B,E,xs,Xs,res,E',fr,cl,e,q⟩:=z
 obtain⟨⟨rs,E1⟩,e1,e⟩:=Za.mp e
 obtain⟨ds,e2,e⟩:=Za.mp e
 obtain⟨r,e3,e⟩:=Zab.mp e
 cases e
 refine⟨B,E,xs,Xs,rs,E1,fr,cl,e1,fun vs H1 hl ⟨F,A,fr1⟩=>?_⟩
 obtain⟨r1,A',fr2⟩:=fr1.looks hl e2
 exact⟨ds,res,e3,by rw[oR];exact r1,fun v H' g q'=>q v H' (fr2.told g q')⟩
def gH(i:Nat)(f:ba):ba:=fun E=>match E[i]? with
 |some (.ow _)=>(f E).bind fun a=>(frz a.2 a.1).bind fun b=>match b.2[i]? with
  |some (.ow ds)=>if ds.length < 1000000 then some (.sh .none,b.2.set i (.ow (ds++[b.1])))else none
  |_=>none
 |_=>none
def Jm(i:Nat):ba:=fun E=>match E[i]? with
 |some (.ow ds)=>(ds[ds.length - 1]?).map fun d=>(.sh d,E.set i (.ow ds.dropLast))
 |_=>none
section
variable {X:Cx} {e:Expr} {m1:Bool} {f:ba} {x:Str} {p apos cpos:Pos}
theorem iX(i:Nat) (he:EX X e m1 f) (hN:X.N[i]? =some x:=by rfl) (hv:Bl X.env.scope x:=by first |exact Or.inl rfl |exact Or.inr (Or.inl rfl) |exact Or.inr (Or.inr rfl)) (hd:(x == ("__debug__":Str))=false:=by decide) (hcd:(x == ("__classdict__":Str))=false:=by decide)
  (hs:starEach [e] X.env=[(false,eval e X.env)]:=by rfl) (hbase:attributeBase (.Name x p) "append" X.env (eval (.Name x p) X.env)=eval (.Name x p) X.env:=by rfl)
  (hfew:((backTo cpos (starEach [e] X.env)).all (fun x=> !x.1)&&(backToKw cpos (keywordEach [] X.env)).all (fun x=>x.1.isSome)
   &&decide (([e]:List Expr).length+([]:List Keyword).length+(if ([]:List Keyword).isEmpty then 0 else 1) < 30))=true:=by rfl) (hline:(apos.endLine == cpos.line)=true:=by rfl):
  EX X (.Call (.Attribute (.Name x p) "append" apos) [e] [] cpos) true (gH i f):=by
 refine bA (vM PySem.F.plainAttrs_list PySem.F.slot_list_append PySem.F.type_list_append ni (lr hN hv hd hcd) (bU he d0 hs) hbase hfew hline hs rfl) fun σ H Q z=>?_
 obtain⟨B,E,xs,Xs,res,E',⟨F,A,fr⟩,cl,e,q⟩:=z
 unfold gH at e
 split at e
 ·rename_i ds0 ei
  obtain⟨⟨s,E1⟩,e1,e⟩:=Za.mp e
  obtain⟨⟨d,E2⟩,e2,e⟩:=Za.mp e
  simp only at e
  split at e
  ·rename_i ds ei2
   split at e
   ·rename_i hl
    cases e
    obtain⟨o,A1,eo,l,vs,rfl,rfl,hl0,_⟩:=fr.var ei
    refine⟨_,eo,.inl ⟨rfl,_,SqL.of hl0⟩,B,E,xs,Xs,s,E1,⟨F,A,fr⟩,fun _=>cl rfl,e1,fun v H1 ⟨F1,A1,fr1⟩=>?_⟩
    obtain⟨F2,A2,fr2⟩:=fr1.frz0 e2
    obtain⟨v',A3,ev,rfl,w,ew,rv⟩:=fr2.ext (k:=0) rfl
    cases ev;cases ew
    obtain⟨A4,fr3⟩:=fr2.pop
    obtain⟨l',vs',eo',hl',r',put⟩:=fr3.mut ei2 (cl rfl)
    rw[eo]at eo'
    cases eo'
    have ll:=r'.len
    have fr4:=put (vs'++[v]) (ds++[d]) (r'.snoc rv)
    exact⟨l,vs',v,rfl,rfl,hl',small (by omega),q _ _ ⟨_,_,fr4.push ⟨rfl,_,rfl,.non⟩⟩⟩
   ·cases e
  ·cases e
 ·cases e
theorem Jo(i:Nat) (hN:X.N[i]? =some x:=by rfl) (hv:Bl X.env.scope x:=by first |exact Or.inl rfl |exact Or.inr (Or.inl rfl) |exact Or.inr (Or.inr rfl)) (hd:(x == ("__debug__":Str))=false:=by decide) (hcd:(x == ("__classdict__":Str))=false:=by decide)
  (hbase:attributeBase (.Name x p) "pop" X.env (eval (.Name x p) X.env)=eval (.Name x p) X.env:=by rfl) (hline:(apos.endLine == cpos.line)=true:=by rfl):
  EX X (.Call (.Attribute (.Name x p) "pop" apos) [] [] cpos) true (Jm i):=by
 refine bA (Df PySem.F.plainAttrs_list PySem.F.slot_list_pop PySem.F.type_list_pop IV (lr hN hv hd hcd) hbase hline) fun σ H Q z=>?_
 obtain⟨B,E,xs,Xs,res,E',⟨F,A,fr⟩,cl,e,q⟩:=z
 unfold Jm at e
 split at e
 ·rename_i ds ei
  obtain⟨d,ed,e⟩:=Zab.mp e
  cases e
  obtain⟨l,vs,eo,hl,r,put⟩:=fr.mut ei (cl rfl)
  obtain⟨y,ey,ry⟩:=r.get ed
  have fr2:=put vs.dropLast ds.dropLast r.dropLast
  exact⟨_,eo,.inl ⟨rfl,_,SqL.of hl⟩,l,vs,y,rfl,rfl,hl,by rw[r.len];exact ey,q _ _ ⟨_,_,fr2.push ⟨rfl,_,rfl,ry⟩⟩⟩
 ·cases e
end
def DI(s:Sl):Sl:=match s.val with
 |some d=>.sh d
 |none=>.no
def frzAll(E:List Sl):List Sl:=E.map DI
def settle(E:List Sl):Sl→Option (Sl×List Sl)
 |.al i=>(frz E (.al i)).map fun a=>(.sh a.1,a.2)
 |.br d=>if fL d then some (.sh d,E)else some (.sh d,frzAll E)
 |s=>some (s,E)
def aL(g h:cI):cI:=fun E=>(g E).bind fun a=>match a.2 with
 |.nx=>h a.1
 |fl=>some (a.1,fl)
def aW:cI:=fun E=>some (E,.nx)
def fA(f:ba):cI:=fun E=>(f E).map fun a=>(a.2,.nx)
def bq(f:ba):cI:=fun E=>(f E).bind fun a=>match a.1 with
 |.al i=>(a.2[i]?).map fun s=>(a.2.set i .no,.rt s)
 |s=>some (a.2,.rt s)
def bT(c:jW)(g h:cI):cI:=fun E=>(c E).bind fun a=>if a.1 then g a.2 else h a.2
def aH(i:Nat)(f:ba):cI:=fun E=>(f E).bind fun a=>(settle a.2 a.1).bind fun b=>if i < b.2.length then some (b.2.set i b.1,.nx)else none
section
variable {K:Frag} {B F:Hp} {A:List Addr} {σ:oA} {H:Hp} {E E':List Sl} {xs:List V} {Xs:List Sl} {v:V} {s s':Sl} {d:PyData}
theorem FrF.frzAll(h:FrF K B F A σ H E xs Xs)(hX:Xs=[]):FrF K B H [] σ H (PL.frzAll E) [] []:=by
 subst hX
 have hx:xs=[]:=by simpa using h.len
 subst hx
 refine⟨h.bf.trans h.fh,Same.refl _,nj H,?_,List.nodup_nil,fun a ha=>(by cases ha),rfl,fun s hs=>?_⟩
 ·have key:∀{os:List (Option V)} {ss:List Sl} {C:List Addr},SAll (SlOk K F H σ) os ss C→SAll (SlOk K H H σ) os (PL.frzAll ss) []:=fun {os ss C} r=>by
   induction r with
   |nil=>exact .nil
   |cons q _ ih=>
    refine .cons (A:=[]) ?_ ih
    unfold DI
    split
    ·rename_i d e
     obtain⟨v,rfl,r,_⟩:=q.val h.fh e
     exact⟨rfl,v,rfl,r⟩
    ·exact rfl
  exact key h.sl
 ·obtain⟨t,_,rfl⟩:=Zbf.mp hs
  unfold DI
  split <;> rfl
theorem FrF.settle(h:FrF K B F A σ H E (v::xs) (s::Xs))(hX:Xs=[])(q:PL.settle E s=some (s',E')):s'.isAl=false∧Frm K B σ H E' (v::xs) (s'::Xs):=by
 cases s with
 |al i=>
  obtain⟨⟨d,E2⟩,e,z⟩:=Zab.mp (show(frz E (.al i)).map (fun a=>(Sl.sh a.1,a.2))=some (s',E')from q)
  cases z
  obtain⟨F',A',h'⟩:=h.frz0 e
  exact⟨rfl,F',A',h'⟩
 |br d=>
  have r:=(h.look0 (d:=d) rfl).1
  obtain⟨A',h'⟩:=h.pop
  simp only[PL.settle]at q
  split at q
  ·rename_i hf
   cases q
   exact⟨rfl,F,A',h'.push ⟨rfl,v,rfl,h.cold r hf⟩⟩
  ·cases q
   have h2:=h'.frzAll hX
   have hl:=h'.len
   subst hX
   have hx:xs=[]:=by simpa using hl
   subst hx
   exact⟨rfl,H,[],h2.push ⟨rfl,v,rfl,r⟩⟩
 |no=>cases q;exact⟨rfl,F,A,h⟩
 |sh d=>cases q;exact⟨rfl,F,A,h⟩
 |ow ds=>cases q;exact⟨rfl,F,A,h⟩
 |od kvs=>cases q;exact⟨rfl,F,A,h⟩
 |tx ps=>cases q;exact⟨rfl,F,A,h⟩
theorem FrF.move{i:Nat}(h:FrF K B F A σ H E (v::xs) (.al i::Xs))(e:E[i]? =some s):Frm K B σ H (E.set i .no) (v::xs) (s::Xs):=by
 obtain⟨v',A1,ev,rfl,w,ew,hw⟩:=h.ext (k:=0) rfl
 cases ev;cases ew
 obtain⟨A',h'⟩:=h.pop
 obtain⟨o,A0,A1,A2,eA,eo,hp,put⟩:=h'.sl.at (k:=Xs.length+i) (s:=s) (by rw[FD (by omega)];simpa using e)
 have z:=put (SlOk K F H σ) o .no [] rfl fun _ _ _ _ _ q=>q
 have e3:(Xs++E).set (Xs.length+i) .no=Xs++E.set i .no:=by
  rw[List.set_append_right _ _ (by omega),CN]
 have e2:(List.map some xs++σ).set (Xs.length+i) o=List.map some xs++σ:=List.ext_getElem? fun j=>by
  by_cases hj:Xs.length+i=j
  ·subst hj
   rw[List.getElem?_set_self',eo];rfl
  ·rw[List.getElem?_set_ne hj]
 rw[e2,e3]at z
 rw[FD (by rw[eM,h'.len];omega),eM,h'.len,CN,hw]at eo
 cases eo
 have nd:=h'.nd
 rw[eA]at nd
 refine⟨F,A1++(A0++([]++A2)),h.bf,h.fh,h.tf,.cons hp z,?_,fun a ha=>h'.fr a ?_,h.len,fun s' hs=>?_⟩
 ·have p:(A1++(A0++([]++A2))).Perm (A0++(A1++A2)):=by
   rw[List.nil_append,←oQ,←oQ]
   exact List.Perm.append_right _ List.perm_append_comm
  exact p.nodup_iff.mpr nd
 ·rw[eA]
  simp only[Zah,Z8]at ha ⊢
  rcases ha with z |z |z
  ·exact .inr (.inl z)
  ·exact .inl z
  ·exact .inr (.inr z)
 ·rcases List.mem_or_eq_of_mem_set hs with hs |hs
  ·exact h.pl s' hs
  ·subst hs;rfl
end
section
variable {X:Cx} {st:Stmt} {eN a b:List Stmt} {g h:cI} {e c:Expr} {m:Bool} {f:ba} {t:jW} {pos:Pos}
theorem aR:vF X [] aW:=Ah FP fun D σ H z=>by
 obtain⟨B,E,xs,Xs,E',fl,fr,cl,e,q⟩:=z
 cases e
 exact q _ _ fr
theorem ao(h1:SX X st g):vF X [st] g:=FQ h1
theorem Jp{K:Frag}{H:Hp}(z:rs K (aL g h) D σ H):rs K g {D with nx:=rs K h D} σ H:=by
 obtain⟨B,E,xs,Xs,E',fl,fr,cl,e,q⟩:=z
 obtain⟨⟨E1,f1⟩,e1,e⟩:=Za.mp e
 refine⟨B,E,xs,Xs,E1,f1,fr,cl,e1,?_⟩
 cases f1 with
 |nx=>exact fun σ' H' fr'=>⟨B,E1,xs,Xs,E',fl,fr',cl,e,q⟩
 |bk=>cases e;exact q
 |ct=>cases e;exact q
 |rt r=>cases e;exact q
theorem aj(h1:SX X st g)(h2:vF X eN h):vF X (st::eN) (aL g h):=Ah (CT h1 h2) fun D σ H z=>Jp z
theorem fY(he:EX X e m f)(hs:swapsWith e none pos.line X.env=pure false:=by rfl):SX X (.Expr e pos) (fA f):=jX (zS he hs) fun D σ H z=>by
 obtain⟨B,E,xs,Xs,E',fl,fr,cl,e,q⟩:=z
 obtain⟨⟨s,E1⟩,e1,e⟩:=Zab.mp e
 cases e
 refine⟨B,E,xs,Xs,s,E1,fr,fun _=>Calm.nil cl,e1,fun v H1 ⟨F,A,fr1⟩=>?_⟩
 obtain⟨A',fr2⟩:=fr1.pop
 exact q _ _ ⟨F,A',fr2⟩
theorem aM(he:EX X e m f):SX X (.Return (some e) pos) (bq f):=jX (Ix he) fun D σ H z=>by
 obtain⟨B,E,xs,Xs,E',fl,fr,cl,e,q⟩:=z
 obtain⟨⟨s,E1⟩,e1,e⟩:=Za.mp e
 refine⟨B,E,xs,Xs,s,E1,fr,fun _=>Calm.nil cl,e1,fun v H1 ⟨F,A,fr1⟩=>?_⟩
 simp only at e
 split at e
 ·obtain⟨s',es,e⟩:=Zab.mp e
  cases e
  exact q σ _ _ (fr1.move es)
 ·cases e
  exact q σ _ _ ⟨F,A,fr1⟩
theorem cc(hc:TX X c m t)(ha:vF X a g)(hb:vF X b h):SX X (.If c a b pos) (bT t g h):=jX (KL hc ha hb) fun D σ H z=>by
 obtain⟨B,E,xs,Xs,E',fl,fr,cl,e,q⟩:=z
 obtain⟨⟨b1,E1⟩,e1,e⟩:=Za.mp e
 refine⟨B,E,xs,Xs,b1,E1,fr,fun _=>Calm.nil cl,e1,fun H1 fr1=>?_⟩
 cases b1 with
 |true=>exact(if_pos rfl).mpr ⟨B,E1,xs,Xs,E',fl,fr1,cl,e,q⟩
 |false=>exact(if_neg (by decide)).mpr ⟨B,E1,xs,Xs,E',fl,fr1,cl,e,q⟩
theorem aJ(i:Nat)(hN:X.N.Nodup)(he:EX X e m f)(hi:X.N[i]? =some x:=by rfl)(hx:Io X.env.scope x:=by first |exact Or.inl rfl |exact Or.inr rfl)(hs:swapsWith e (some (.Name x pos')) pos.line X.env=pure false:=by rfl)(hf:X.fn x=true∨X.env.scope.names.lookup x=some .local:=by first |exact .inl rfl |exact .inr rfl |assumption):
  SX X (.Assign [.Name x pos'] e pos) (aH i f):=jX (IC hN hi hx he hs hf) fun D σ H z=>by
 obtain⟨B,E,xs,Xs,E',fl,fr,cl,e,q⟩:=z
 obtain⟨⟨s,E1⟩,e1,e⟩:=Za.mp e
 obtain⟨⟨s',E2⟩,e2,e⟩:=Za.mp e
 refine⟨B,E,xs,Xs,s,E1,fr,fun _=>Calm.nil cl,e1,fun v H1 ⟨F,A,fr1⟩=>?_⟩
 obtain⟨c1,F2,A2,fr2⟩:=fr1.settle cl e2
 simp only at e
 split at e
 ·rename_i hi
  cases e
  obtain⟨A3,fr3⟩:=fr2.store c1 (Still.nil cl) hi
  exact q _ _ ⟨F2,A3,fr3⟩
 ·cases e
end
end PL
namespace PL
open PySem L2 Nh
abbrev fK:=PyData→List Sl→Option (List Sl)
abbrev vU:=List PyData→List Sl→Option (List Sl)
def rg(K:Frag)(h:fK):TG:=fun v σ H Q=>∃B E xs Xs d E',Frm K B σ H E (v::xs) (.sh d::Xs)∧Still Xs∧h d E=some E'∧∀σ' H',Frm K B σ' H' E' xs Xs→Q σ' H'
def NF(K:Frag)(h:vU):FR:=fun vs σ H Q=>∃B E xs Xs ds E',vs.length=ds.length∧Frm K B σ H E (vs++xs) (ds.map .sh++Xs)∧Still Xs∧h ds E=some E'∧∀σ' H',Frm K B σ' H' E' xs Xs→Q σ' H'
def GX(X:Cx)(e:Expr)(h:fK):Prop:=PG X e (rg X.K h)
def Mk(X:Cx)(es:List Expr)(h:vU):Prop:=Iz X es (NF X.K h)
def aO(i:Nat):fK:=fun d E=>if i < E.length then some (E.set i (.sh d))else none
def rL:vU:=fun ds E=>if ds.isEmpty then some E else none
def jg(h:fK)(hs:vU):vU:=fun ds E=>match ds with
 |d::ds=>(h d E).bind (hs ds)
 |[]=>none
def rM(n:Nat)(hs:vU):fK:=fun d E=>match d with
 |.tuple ds=>if ds.length=n then hs ds E else none
 |_=>none
section
variable {X:Cx}
theorem DJ{t t':TG}(h:PG X e t)(k:∀v σ H Q,t' v σ H Q→t v σ H Q):PG X e t':=fun pins s σ H v u Q I r q=>h pins s σ H v u Q I r (k v σ H Q q)
theorem An{es:List Expr}{t t':FR}(h:Iz X es t)(k:∀v σ H Q,t' v σ H Q→t v σ H Q):Iz X es t':=fun pins s σ H v u Q I r q=>h pins s σ H v u Q I r (k v σ H Q q)
theorem aK(i:Nat){pos:Pos}(hN:X.N.Nodup)(hi:X.N[i]? =some x:=by rfl)(hx:Io X.env.scope x:=by first |exact Or.inl rfl |exact Or.inr rfl)(hf:X.fn x=true∨X.env.scope.names.lookup x=some .local:=by first |exact .inl rfl |exact .inr rfl |assumption):GX X (.Name x pos) (aO i):=DJ (zT hN hi hx hf) fun v σ H Q z=>by
 obtain⟨B,E,xs,Xs,d,E',⟨F,A,fr⟩,cl,e,q⟩:=z
 unfold aO at e
 split at e
 ·rename_i hi
  cases e
  obtain⟨A',fr'⟩:=fr.store rfl cl hi
  exact q _ _ ⟨F,A',fr'⟩
 ·cases e
theorem pe:Mk X [] rL:=An FS fun v σ H Q z=>by
 obtain⟨B,E,xs,Xs,ds,E',hl,fr,cl,e,q⟩:=z
 unfold rL at e
 split at e
 ·rename_i hd
  cases e
  have:ds=[]:=by simpa using hd
  subst this
  have hv:v=[]:=by simpa using hl
  subst hv
  exact⟨rfl,q _ _ fr⟩
 ·cases e
theorem gg{es:List Expr}{h:fK}{hs:vU}(h1:GX X e h)(h2:Mk X es hs)(hst:(assignEach (e::es) X.env).map (·.2)=assign e X.env::(assignEach es X.env).map (·.2):=by rfl):Mk X (e::es) (jg h hs):=An (CW h1 h2 hst) fun v σ H Q z=>by
 obtain⟨B,E,xs,Xs,ds,E',hl,fr,cl,e,q⟩:=z
 cases ds with
 |nil=>cases e
 |cons d ds=>
  cases v with
  |nil=>cases hl
  |cons v vs=>
   obtain⟨E1,e1,e2⟩:=Za.mp e
   refine⟨v,vs,rfl,B,E,vs++xs,ds.map Sl.sh++Xs,d,E1,fr,fun s hs=>?_,e1,fun σ1 H1 fr1=>⟨B,E1,xs,Xs,ds,E',by simpa using hl,fr1,cl,e2,q⟩⟩
   rcases Zah.mp hs with hs |hs
   ·obtain⟨d',_,rfl⟩:=Zbf.mp hs
    rfl
   ·exact cl s hs
theorem tF{es:List Expr}{pos:Pos}{hs:vU}(hc:X.calm=true)(h:Mk X es hs)(hn:(assignEach es X.env).length=n:=by rfl)(hst:(assignEach es X.env).findIdx? (·.1)=none:=by rfl):GX X (.Tuple es k pos) (rM n hs):=DJ (IB hc h hn hst) fun v σ H Q z=>by
 obtain⟨B,E,xs,Xs,d,E',⟨F,A,fr⟩,cl,e,q⟩:=z
 unfold rM at e
 split at e
 ·rename_i ds
  split at e
  ·rename_i hl
   obtain⟨v',A1,ev,rfl,w,ew,r⟩:=fr.ext (k:=0) rfl
   cases ev;cases ew
   cases r with
   |tup h1 h2=>
    obtain⟨A',fr'⟩:=fr.pop
    have key:∀{us:List V} {es:List PyData},RpA X.K F us es→FrF X.K B F A' σ H E (us++xs) (es.map .sh++Xs):=fun {us es} r=>by
     induction us generalizing es with
     |nil=>cases r;exact fr'
     |cons u us ih=>
      cases r with
      |cons r1 r2=>exact(ih r2).push ⟨rfl,_,rfl,r1⟩
    exact⟨_,_,rfl,fr.fh.tup h1,by rw[h2.len];exact hl,B,E,xs,Xs,ds,E',h2.len,⟨F,A',key h2⟩,cl,e,q⟩
  ·cases e
 ·cases e
end
def vV(K:Frag)(B0:Hp)(J:It)(ds:List PyData):Prop:=∀{B F:Hp} {A:List Addr} {σ:oA} {H:Hp} {E:List Sl} {xs:List V} {Xs:List Sl} (i:Nat),Same B0 B→FrF K B F A σ H E xs Xs→
 (∀d,ds[i]? =some d→J.go i H∧∀x H2,J.yld i H x H2→Frm K B σ H2 E (x::xs) (.sh d::Xs))∧(i=ds.length→J.stop i H)
def ri(K:Frag)(m:Bool)(f:kX):TI:=fun σ H R=>∃B E xs Xs ds E',Frm K B σ H E xs Xs∧(m=true→Calm Xs)∧f E=some (ds,E')∧∀B' J H',Same B B'→Frm K B' σ H' E' xs Xs→vV K B' J ds→R J H'
def IX(X:Cx)(tg e:Expr)(m:Bool)(f:kX):Prop:=PI X tg e (ri X.K m f)
theorem FrF.base{K:Frag}{B:Hp}{A:List Addr}{H:Hp}(h:FrF K B' F A σ H E xs Xs)(s:Same B B'):FrF K B F A σ H E xs Xs:=⟨s.trans h.bf,h.fh,h.tf,h.sl,h.nd,h.fr,h.len,h.pl⟩
theorem Frm.base{K:Frag}{B:Hp}{H:Hp}(h:Frm K B' σ H E xs Xs)(s:Same B B'):Frm K B σ H E xs Xs:=let ⟨F,A,h⟩:=h;⟨F,A,h.base s⟩
theorem FrF.raise{K:Frag}{B:Hp}{A:List Addr}{H:Hp}(h:FrF K B F A σ H E xs Xs):FrF K F F A σ H E xs Xs:=⟨Same.refl _,h.fh,h.tf,h.sl,h.nd,h.fr,h.len,h.pl⟩
def iI(lo:Int)(n:Nat):List PyData:=(List.range n).map fun(k:Nat)=>.int (lo+(k:Int))
def d9(g:nq):kX:=fun E=>(g E).bind fun a=>match fq a.2 a.1 with
 |some [.int j]=>if -1000000≤j∧j≤1000000 then some (iI 0 j.toNat,a.2)else none
 |_=>none
def tH(g:nq):kX:=fun E=>(g E).bind fun a=>match fq a.2 a.1 with
 |some [.int i,.int j]=>if -1000000≤i∧i≤1000000∧ -1000000≤j∧j≤1000000 then some (iI i (j - i).toNat,a.2)else none
 |_=>none
section
variable {X:Cx} {tg e e2:Expr} {m:Bool} {f:ba} {g:nq} {p pos:Pos} {K:Frag} {B:Hp}
theorem tI{t t':TI}(h:PI X tg e t)(k:∀σ H Q,t' σ H Q→t σ H Q):PI X tg e t':=fun pins s σ H R I q=>h pins s σ H R I (k σ H R q)
theorem BE(h:SqL K B a vs)(r:RpA K B vs ds):vV K B (MB K a) ds:=fun {B' F A σ H E xs Xs} i sB fr=>by
 have hH:=fr.fh.seq (fr.bf.seq (sB.seq h))
 refine⟨fun d ed=>?_,fun e=>⟨vs,hH,by rw[e,r.len];exact fz _⟩⟩
 obtain⟨v,ev,rv⟩:=r.get ed
 refine⟨⟨vs,v,hH,ev⟩,fun x H2 ⟨e2,y⟩=>?_⟩
 subst e2
 have:=y vs hH
 rw[ev]at this
 cases this
 exact⟨F,A,fr.push ⟨rfl,_,rfl,rv.same (sB.trans fr.bf)⟩⟩
theorem pN{lo:Int}:vV K B (KO lo n) (iI lo n):=fun {B' F A σ H E xs Xs} i sB fr=>by
 have hl:(iI lo n).length=n:=by simp[iI]
 refine⟨fun d ed=>?_,fun e=>?_⟩
 ·have hi:i < n:=by have:=(Zav.mp ed).1;omega
  refine⟨hi,fun x H2 ⟨e2,y⟩=>?_⟩
  subst e2 y
  have:d=.int (lo+i):=by
   unfold iI at ed
   rw[zP,List.getElem?_range hi]at ed
   exact(Option.some.inj ed).symm
  subst this
  exact⟨F,A,fr.push ⟨rfl,_,rfl,.int _⟩⟩
 ·show n≤i
  omega
theorem gT(hg:Gl X "range") (hm:X.mg "range"=none) (ha:AX X [e] m g) (hs:starEach [e] X.env=[(false,eval e X.env)]:=by rfl):IX X tg (.Call (.Name "range" p) [e] [] pos) m (d9 g):=tI (Bp hg hm ha hs) fun σ H R z=>by
 obtain⟨B,E,xs,Xs,ds,E',fr,cl,e,q⟩:=z
 obtain⟨⟨rs,E1⟩,e1,e⟩:=Za.mp e
 refine⟨B,E,xs,Xs,rs,E1,fr,cl,e1,fun vs H1 hl ⟨F,A,fr1⟩=>?_⟩
 simp only at e
 split at e
 ·rename_i j ld
  split at e
  ·rename_i hj
   cases e
   obtain⟨r,A',fr2⟩:=fr1.looks hl ld
   obtain⟨v,rfl,r'⟩:=r.one
   cases r'
   exact⟨j,rfl,by omega,by omega,q B _ _ (Same.refl _) ⟨F,A',fr2⟩ pN⟩
  ·cases e
 ·cases e
theorem BF(hg:Gl X "range") (hm:X.mg "range"=none) (ha:AX X [e,e2] m g) (hs:starEach [e,e2] X.env=[(false,eval e X.env),(false,eval e2 X.env)]:=by rfl) (hs2:starEach [e2] X.env=[(false,eval e2 X.env)]:=by rfl):IX X tg (.Call (.Name "range" p) [e,e2] [] pos) m (tH g):=tI (Bq hg hm ha hs hs2) fun σ H R z=>by
 obtain⟨B,E,xs,Xs,ds,E',fr,cl,e,q⟩:=z
 obtain⟨⟨rs,E1⟩,e1,e⟩:=Za.mp e
 refine⟨B,E,xs,Xs,rs,E1,fr,cl,e1,fun vs H1 hl ⟨F,A,fr1⟩=>?_⟩
 simp only at e
 split at e
 ·rename_i i j ld
  split at e
  ·rename_i hj
   cases e
   obtain⟨r,A',fr2⟩:=fr1.looks hl ld
   obtain⟨v,u,rfl,r1,r2⟩:=r.two
   cases r1;cases r2
   exact⟨i,j,rfl,by omega,q B _ _ (Same.refl _) ⟨F,A',fr2⟩ pN⟩
  ·cases e
 ·cases e
end
def bB(tg:fK)(body:cI):List PyData→cI
 |[],E=>some (E,.nx)
 |d::ds,E=>((tg d E).bind body).bind fun a=>match a.2 with
  |.nx=>bB tg body ds a.1
  |.ct=>bB tg body ds a.1
  |.bk=>some (a.1,.nx)
  |.rt r=>some (a.1,.rt r)
def eR(it:kX)(tg:fK)(body:cI):cI:=fun E=>(it E).bind fun a=>bB tg body a.1 a.2
theorem fB{tg:Expr}{g:fK}{b:cI}{pos:Pos}(hp:PassesOwn (model X.prog X.w) X.A X.env X.xe)(hc:X.calm=true)(hi:IX X tg iter m it)(hg:GX X tg g)(hb:vF X body b)
  (hs:∀x,foldedSetIterable iter X.env x=pure x:=by intro _;rfl):SX X (.For tg iter body [] pos) (eR it g b):=jX (CY hp hc hi hg hb hs) fun D σ H z=>by
 obtain⟨B,E,xs,Xs,E',fl,fr,cl,e,q⟩:=z
 obtain⟨⟨ds,E1⟩,e1,e⟩:=Za.mp e
 refine⟨B,E,xs,Xs,ds,E1,fr,fun _=>Calm.nil cl,e1,fun B' J H1 hB fr1 ok=>?_⟩
 refine⟨fun i mm σ' H'=>mm=ds.length - i∧i≤ds.length∧∃Ei,bB g b (ds.drop i) Ei=some (E',fl)∧Frm X.K B' σ' H' Ei xs Xs,⟨ds.length,by simp,zz9 _,E1,by simpa using e,fr1⟩,?_⟩
 rintro i mm σ' H' ⟨rfl,hi,Ei,ei,F,A,fri⟩
 obtain⟨go,stop⟩:=ok i (Same.refl _) fri
 by_cases hlt:i < ds.length
 ·obtain⟨d,ed⟩:∃d,ds[i]? =some d:=⟨ds[i],vH hlt⟩
  obtain⟨g1,yl⟩:=go d ed
  have edr:ds.drop i=d::ds.drop (i+1):=by
   rw[FK hlt]
   congr 1
   exact Option.some.inj ((vH hlt).symm.trans ed)
  rw[edr]at ei
  obtain⟨⟨E2,f2⟩,e2,ei⟩:=Za.mp ei
  obtain⟨E3,e3,e2⟩:=Za.mp e2
  refine .inr ⟨g1,fun σ2 H2=>∃Ej,bB g b (ds.drop (i+1)) Ej=some (E',fl)∧Frm X.K B' σ2 H2 Ej xs Xs,fun σ2 H2 ⟨Ej,ej,frj⟩=>⟨ds.length - (i+1),by omega,rfl,hlt,Ej,ej,frj⟩,fun x H2 y=>?_⟩
  refine⟨B',Ei,xs,Xs,d,E3,yl x H2 y,Still.nil cl,e3,fun σ3 H3 fr3=>?_⟩
  refine⟨B',E3,xs,Xs,E2,f2,fr3,cl,e2,?_⟩
  cases f2 with
  |nx=>exact fun σ4 H4 fr4=>⟨E2,ei,fr4⟩
  |ct=>exact fun σ4 H4 fr4=>⟨E2,ei,fr4⟩
  |bk=>cases ei;exact fun σ4 H4 fr4=>q _ _ (fr4.base hB)
  |rt r=>cases ei;exact fun σ4 v H4 fr4=>q _ _ _ (fr4.base hB)
 ·have e0:i=ds.length:=by omega
  refine .inl ⟨stop e0,?_⟩
  rw[e0,List.drop_length]at ei
  cases ei
  exact q _ _ (Frm.base ⟨F,A,fri⟩ hB)
def iC:Sl→Bool
 |.sh d=>fL d
 |.ow ds=>bL ds
 |.tx ps=>ps.all fun p=>match p with |.fl d=>fL d |.ol ds=>bL ds
 |.od kvs=>kvs.all fun p=>bL p.2
 |_=>false
def dW(n:Nat)(ds:List PyData):List Sl:=ds.map .sh++List.replicate (n - ds.length) .no
def fc(r:Sl):Option Sl:=if iC r then some r else match r with
 |.sh d=>some (.br d)
 |.ow ds=>some (.br (.list ds))
 |.tx ps=>some (.br (.tuple (ps.map Pt.val)))
 |.br d=>some (if fL d then .sh d else .br d)
 |_=>none
def DK(n:Nat)(g:cI):List PyData→Option Sl:=fun ds=>(g (dW n ds)).bind fun a=>match a.2 with
 |.rt r=>fc r
 |.nx=>some (.sh .none)
 |_=>none
section
variable {K:Frag} {B F:Hp} {A:List Addr} {σ:oA} {H:Hp} {E:List Sl} {v:V} {r:Sl}
theorem DlOk.cold{H:Hp}(sF:Same F H):∀{us:List (jS×V)} {kvs:List (jS×List PyData)} {A:List Addr},(∀p∈kvs,bL p.2=true)→DlOk K F H us kvs A→DlOk K (tups H) H us kvs A
 |[],[],A,_,h=>h
 |p::us,q::kvs,A,c,h=>by
  obtain⟨l,vs,A',rfl,rfl,hl,hr,k⟩:=h
  exact⟨l,vs,A',rfl,rfl,hl,(hr.same sF).cold (c q (gE ..)),DlOk.cold sF (fun p hp=>c p (gQ _ hp)) k⟩
 |[],_::_,_,_,h=>False.elim h
 |_::_,[],_,_,h=>False.elim h
theorem PtsOk.cold{H G:Hp}(sF:Same F H)(tG:∀{v:V} {d:PyData},Rp K F v d→fL d=true→Rp K G v d):∀{vs:List V} {ps:List Pt} {A:List Addr},(∀p∈ps,(match p with |.fl d=>fL d |.ol ds=>bL ds)=true)→PtsOk K F H vs ps A→PtsOk K G H vs ps A
 |[],[],A,_,h=>h
 |v::vs,.fl d::ps,A,c,h=>⟨tG h.1 (c (.fl d) (gE ..)),PtsOk.cold sF tG (fun p hp=>c p (gQ _ hp)) h.2⟩
 |v::vs,.ol ds::ps,A,c,h=>by
  obtain⟨l,us,A',rfl,rfl,hl,hr,q⟩:=h
  refine⟨l,us,A',rfl,rfl,hl,?_,q.cold sF tG fun p hp=>c p (gQ _ hp)⟩
  have cd:bL ds=true:=c (.ol ds) (gE ..)
  have key:∀{us:List V} {ds:List PyData},RpA K F us ds→bL ds=true→RpA K G us ds:=fun {us ds} r c=>by
   induction us generalizing ds with
   |nil=>cases r;exact .nil
   |cons u us ih=>
    cases r with
    |cons r1 r2=>
     simp only[bL,rC]at c
     exact .cons (tG r1 c.1) (ih r2 c.2)
  exact key hr cd
 |[],_::_,_,_,h=>False.elim h
 |_::_,[],_,_,h=>False.elim h
theorem FrF.result(h:FrF K B F A σ H E [v] [r])(c:iC r=true):Same B H∧Am K B H v r:=by
 refine⟨h.bf.trans h.fh,?_⟩
 have nB:∀a,F a=none→B a=none:=fun a e=>h.bf.free e
 have cold:∀{v:V} {d:PyData},Rp K F v d→fL d=true→Rp K (tups H) v d:=fun r f=>(r.same h.fh).cold f
 obtain⟨v',A1,ev,hs⟩:=h.ext (k:=0) rfl
 cases ev
 obtain⟨o,C0,C1,C2,eA,eo,hp,_⟩:=h.sl.at (k:=0) (s:=r) rfl
 cases eo
 have sub:∀a∈C1,F a=none:=fun a ha=>h.fr a (by rw[eA];simp[ha])
 have nd:C1.Nodup:=by
  have:=h.nd
  rw[eA]at this
  exact(List.nodup_append.mp (List.nodup_append.mp this).2.1).1
 cases r with
 |sh d=>obtain⟨_,w,ew,r⟩:=hp;cases ew;exact cold r c
 |ow ds=>
  obtain⟨l,vs,el,rfl,hl,r⟩:=hp
  cases el
  exact⟨l,vs,rfl,nB l (sub l (by simp)),hl,(r.same h.fh).cold c⟩
 |tx ps=>
  obtain⟨t,vs,et,ht,r⟩:=hp
  cases et
  exact⟨t,vs,C1,rfl,mi (h.fh _ _ ht) rfl,nd,fun a ha=>nB a (sub a ha),r.cold h.fh cold (by simpa[iC,List.all_eq_true]using c)⟩
 |no=>cases c
 |od kvs=>
  obtain⟨l,us,A',el,rfl,hl,r⟩:=hp
  cases el
  exact⟨l,us,A',rfl,nd,fun a ha=>nB a (sub a ha),hl,r.cold h.fh (by simpa[iC,List.all_eq_true]using c)⟩
 |al i=>cases c
 |br d=>cases c
theorem FrF.resultO{r':Sl}(h:FrF K B F A σ H E [v] [r])(c:fc r=some r'):Same B H∧Am K B H v r':=by
 unfold fc at c
 split at c
 ·rename_i hc
  cases c
  exact h.result hc
 ·refine⟨h.bf.trans h.fh,?_⟩
  cases r with
  |sh d=>cases c;exact(h.look0 (d:=d) rfl).1
  |ow ds=>cases c;exact(h.look0 (d:=.list ds) rfl).1
  |tx ps=>cases c;exact(h.look0 (d:=.tuple (ps.map Pt.val)) rfl).1
  |br d=>
   have r:=(h.look0 (d:=d) rfl).1
   simp only at c
   split at c
   ·rename_i hf
    cases c
    exact r.cold hf
   ·cases c
    exact r
  |no=>cases c
  |od kvs=>cases c
  |al i=>cases c
theorem ml{N:List Str}(r:RpA K H vs ds)(hn:ds.length≤N.length):FrF K H H [] (L2.gB N vs) H (dW N.length ds) [] []:=by
 refine⟨Same.refl _,Same.refl _,nj H,?_,List.nodup_nil,fun a ha=>(by cases ha),rfl,?_⟩
 ·have l:=r.len
  unfold L2.gB dW
  rw[l]
  generalize N.length - ds.length=k
  have base:∀τ:oA,SAll (SlOk K H H τ) (List.replicate k none) (List.replicate k .no) []:=fun τ=>by
   induction k with
   |zero=>exact .nil
   |succ k ih=>exact .cons (A:=[]) rfl ih
  have key:∀(τ:oA) {us:List V} {es:List PyData},RpA K H us es→SAll (SlOk K H H τ) (us.map some++List.replicate k none) (es.map .sh++List.replicate k .no) []:=fun τ us es r=>by
   induction us generalizing es with
   |nil=>cases r;exact base τ
   |cons u us ih=>
    cases r with
    |cons r1 r2=>exact .cons (A:=[]) ⟨rfl,_,rfl,r1⟩ (ih _ r2)
  exact key _ r
 ·intro s hs
  unfold dW at hs
  rcases Zah.mp hs with hs |hs
  ·obtain⟨d,_,rfl⟩:=Zbf.mp hs
   rfl
  ·rw[(List.mem_replicate.mp hs).2]
   rfl
end
def gy(k n:Nat)(g:cI):List PyData→Option Sl:=fun ds=>if ds.length=k then DK n g ds else none
theorem fD{w:World}{K:Frag}{mg:Str→Option Value}{base:Heap}{N:List Str}{a:Nat}{g:cI}(D:Def K mg x st ps)(S:FnScope N ps (ak st))(hpa:ps.length=a)(hNn:N.length=n)(hps:a≤n)
  (hbody:∀(f:Addr) (cdv:Value) (A:Around) (outer:List Env) (s:Shared) (H:Hp) (E:XK),Room k (A.deeper (PyProof.Rows.envOfC x (ak st) s.heap.objs.size f cdv))→
   vF (je xK P w K mg base N x (ak st) f cdv A outer s H E).nox (bE st) g):Own P w K mg base (k+1) x ps (gw K (gy a n g)):=by
 subst hpa hNn
 refine D.own S (fun vs H Q E h=>?_) (fun f cdv A outer s H vs Q E hr h=>?_)
 ·obtain⟨ds,r,e,rp,_⟩:=h
  unfold gy at e
  split at e
  ·rename_i hl
   rw[rp.len];exact hl
  ·cases e
 obtain⟨ds,r,e,rp,q⟩:=h
 unfold gy at e
 split at e
 ·rename_i hl
  refine⟨_,hbody f cdv A outer s H E hr,?_⟩
  obtain⟨⟨E',fl⟩,e1,e⟩:=Za.mp e
  refine⟨H,dW N.length ds,[],[],E',fl,⟨H,[],ml rp (by omega)⟩,rfl,e1,?_⟩
  cases fl with
  |nx=>
   cases e
   rintro σ' H' ⟨F',A',fr'⟩
   exact q _ _ (fr'.bf.trans fr'.fh) .non
  |bk=>cases e
  |ct=>cases e
  |rt r'=>
   rintro σ' v H' ⟨F',A',fr'⟩
   obtain⟨s1,s2⟩:=fr'.resultO e
   exact q v H' s1 s2
 ·cases e
theorem NG{w:World}{K:Frag}{mg:Str→Option Value}{base:Heap}{N:List Str}{a:Nat}{g:cI}{f0:Addr}(D:Fun K x x st f0 fd)(S:FnScope N ps (ak st))(hpa:ps.length=a)(hNn:N.length=n)(hps:a≤n)
  (hbody:∀(cdv:Value) (A:Around) (outer:List Env) (s:Shared) (H:Hp) (E:XK),Room k (A.deeper (PyProof.Rows.envOfC x (ak st) s.heap.objs.size f0 cdv))→
   vF (je xK P w K mg base N x (ak st) f0 cdv A outer s H E).nox (bE st) g):FnOk P w K mg base xK (k+1) f0 fd ps (gw K (gy a n g)):=by
 subst hpa hNn
 refine D.ok S (fun vs H Q E h=>?_) (fun cdv A outer s H vs Q E hr h=>?_)
 ·obtain⟨ds,r,e,rp,_⟩:=h
  unfold gy at e
  split at e
  ·rename_i hl
   rw[rp.len];exact hl
  ·cases e
 obtain⟨ds,r,e,rp,q⟩:=h
 unfold gy at e
 split at e
 ·rename_i hl
  refine⟨_,hbody cdv A outer s H E hr,?_⟩
  obtain⟨⟨E',fl⟩,e1,e⟩:=Za.mp e
  refine⟨H,dW N.length ds,[],[],E',fl,⟨H,[],ml rp (by omega)⟩,rfl,e1,?_⟩
  cases fl with
  |nx=>
   cases e
   rintro σ' H' ⟨F',A',fr'⟩
   exact q _ _ (fr'.bf.trans fr'.fh) .non
  |bk=>cases e
  |ct=>cases e
  |rt r'=>
   rintro σ' v H' ⟨F',A',fr'⟩
   obtain⟨s1,s2⟩:=fr'.resultO e
   exact q v H' s1 s2
 ·cases e
theorem rN{K:Frag}{H:Hp}:∀ns:List Int,RpA K H (ns.map V.int) (ns.map PyData.int)
 |[]=>.nil
 |n::ns=>.cons (.int n) (rN ns)
theorem Jq{K:Frag}{H:Hp}{ns:List Int}(e:c [.list (ns.map .int)]=some (.sh (.bool true)))(h:SqL K H a (ns.map V.int)):gw K c [.ref a] H (fun v _=>v=.bl true) fun _ _ _=>False:=
 ⟨_,_,e,.cons (.lst h (rN ns)) .nil,fun v H' _ r=>by
  have r':Rp K (tups H') v (.bool true):=r
  cases r'
  rfl⟩
end PL
variable {tg:PL.fK}
namespace PL
open PySem L2 Nh
def Ao(E:List Sl):Option Nat→Sl
 |none=>.no
 |some j=>match (E[j]?).bind Sl.val with
  |some d=>.sh d
  |none=>.no
def jh(js:List (Option Nat))(E:List Sl):List Sl:=js.map (Ao E)
def a_:jW:=fun E=>some (true,E)
def cB(tg:fK)(cond:jW)(elt:ba):List PyData→List Sl→Option (List PyData)
 |[],_=>some []
 |d::ds,E=>(tg d E).bind fun E1=>(cond E1).bind fun b=>if b.1 then (elt b.2).bind fun c=>(frz c.2 c.1).bind fun e=>(cB tg cond elt ds e.2).map fun r=>e.1::r else cB tg cond elt ds b.2
def bh(js:List (Option Nat))(it:kX)(tg:fK)(cond:jW)(elt:ba):ba:=fun E=>(it E).bind fun a=>(cB tg cond elt a.1 (jh js a.2)).bind fun ds=>if bL ds&&decide (ds.length≤1000000)then some (.ow ds,a.2)else none
section
variable {X:Cx} {elt target iter:Expr} {ifs:List Expr} {scope sc:Scope} {cl:List (Str×Addr)} {N:List Str} {pos:Pos} {js:List (Option Nat)} {K:Frag}
theorem vW{B:Hp}{A:List Addr}{H:Hp}(fr:FrF K B F A σ H E xs Xs)(js:List (Option Nat)):FrF K H H [] (slots js σ) H (jh js E) [] []:=by
 refine⟨Same.refl _,Same.refl _,nj H,?_,List.nodup_nil,fun a ha=>(by cases ha),rfl,fun s hs=>?_⟩
 ·have key:∀(τ:oA) (ks:List (Option Nat)),SAll (SlOk K H H τ) (slots ks σ) (jh ks E) []:=fun τ ks=>by
   induction ks with
   |nil=>exact .nil
   |cons j ks ih=>
    refine .cons (A:=[]) ?_ ih
    cases j with
    |none=>exact rfl
    |some j=>
     show SlOk K H H τ _ (match (E[j]?).bind Sl.val with |some d=>.sh d |none=>.no) []
     cases ej:E[j]? with
     |none=>exact rfl
     |some s=>
      cases ev:s.val with
      |none=>simp only[Z0,ev];exact rfl
      |some d=>
       simp only[Z0,ev]
       obtain⟨o,A1,eo,hs⟩:=fr.var ej
       obtain⟨v,rfl,r,_⟩:=hs.val fr.fh ev
       refine⟨rfl,v,?_,r⟩
       show(σ[j]?).join=some v
       rw[eo]
       rfl
  exact key _ js
 ·obtain⟨j,_,rfl⟩:=Zbf.mp hs
  cases j with
  |none=>rfl
  |some j=>
   simp only[Ao]
   split <;> rfl
theorem BG{m2:Bool}{tt:TT}(htt:∀σ H Q,rt K m2 cond σ H Q→tt σ H Q){B:Hp}{A:List Addr}{H1:Hp}{rs:List PyData}{J:It}{Q:VK}
  (fr1:FrF K B F A σ H1 E1 xs Xs) (B2:Same B' H1) (ok:vV K B' J ds) (e2:cB tg cond el ds (jh js E1)=some rs) (hc:bL rs=true∧rs.length≤1000000) (q:∀v H',Frm K B σ H' E1 (v::xs) (.ow rs::Xs)→Q v H') (l:Addr) (hl:H1 l=none):
  ∃W:Nat→Nat→oA→Hp→Prop,(∃m,W 0 m (slots js σ) (upd H1 l (.lst [])))∧
 ∀i m σ' H',W i m σ' H'→(J.stop i H'∧Q (.ref l) H')∨(J.go i H'∧∃N:oA→Hp→Prop,(∀σ' H',N σ' H'→∃m',m' < m∧W (i+1) m' σ' H')∧∀x H2,J.yld i H' x H2→rg K tg x σ' H2 fun σ3 H3=>tt σ3 H3 fun b H4=>
  if b=true then rd K m3 el σ3 H4 fun y H5=>∃ys,H5 l=some (.lst ys)∧ys.length < sizeLine∧N σ3 (upd H5 l (.lst (ys++[y])))else N σ3 H4):=by
 have fr0:=(vW fr1 js).newl (ds:=[]) .nil hl
 refine⟨fun i mm σ' H'=>mm=ds.length - i∧i≤ds.length∧∃Ei acc eN,cB tg cond el (ds.drop i) Ei=some eN∧rs=acc++eN∧Frm K H1 σ' H' Ei [.ref l] [.ow acc],⟨ds.length,by simp,zz9 _,_,[],rs,by simpa using e2,rfl,⟨_,_,fr0⟩⟩,?_⟩
 rintro i mm σ' H' ⟨rfl,hi,Ei,acc,eN,ei,er,F',A',fri⟩
 obtain⟨go,stop⟩:=ok i B2 fri
 by_cases hlt:i < ds.length
 ·obtain⟨d,ed⟩:∃d,ds[i]? =some d:=⟨ds[i],vH hlt⟩
  obtain⟨g1,yl⟩:=go d ed
  have edr:ds.drop i=d::ds.drop (i+1):=by
   rw[FK hlt]
   congr 1
   exact Option.some.inj ((vH hlt).symm.trans ed)
  rw[edr]at ei
  obtain⟨E3,e3,ei⟩:=Za.mp ei
  obtain⟨⟨b,E4⟩,e4,ei⟩:=Za.mp ei
  refine .inr ⟨g1,fun σ2 H2=>∃Ej acc eN,cB tg cond el (ds.drop (i+1)) Ej=some eN∧rs=acc++eN∧Frm K H1 σ2 H2 Ej [.ref l] [.ow acc],fun σ2 H2 ⟨Ej,ac,rt,ej,er,frj⟩=>⟨ds.length - (i+1),by omega,rfl,hlt,Ej,ac,rt,ej,er,frj⟩,fun x H2 y=>?_⟩
  have clm:Calm [Sl.ow acc]:=Calm.cons (fun s hs=>absurd hs (by simp)) rfl
  refine⟨H1,Ei,[.ref l],[.ow acc],d,E3,yl x H2 y,(fun s hs=>by rw[Zaf.mp hs];rfl),e3,fun σ3 H3 fr3=>htt _ _ _ ?_⟩
  refine⟨H1,E3,[.ref l],[.ow acc],b,E4,fr3,fun _=>clm,e4,fun H4 fr4=>?_⟩
  cases b with
  |false=>
   rw[if_neg (by decide)]
   exact⟨E4,acc,eN,ei,er,fr4⟩
  |true=>
   rw[if_pos rfl]
   obtain⟨⟨s5,E5⟩,e5,ei⟩:=Za.mp ei
   obtain⟨⟨d6,E6⟩,e6,ei⟩:=Za.mp ei
   obtain⟨rest',e7,ei⟩:=Zab.mp ei
   subst ei
   refine⟨H1,E4,[.ref l],[.ow acc],s5,E5,fr4,fun _=>clm,e5,fun y5 H5 ⟨F5,A5,fr5⟩=>?_⟩
   obtain⟨F6,A6,fr6⟩:=fr5.frz0 e6
   obtain⟨v',C1,ev,rfl,w,ew,ry⟩:=fr6.ext (k:=0) rfl
   cases ev;cases ew
   obtain⟨A7,fr7⟩:=fr6.pop
   -- the list under way is the one part that owns
   obtain⟨bf,fh,tf,sl,nd,frn,len,pl⟩:=fr7
   generalize hT:List.map some [V.ref l]++σ3=T at sl
   generalize hS:[Sl.ow acc]++E6=S at sl
   cases sl with
   |nil=>cases hS
   |cons q0 r0=>
    injection hT with h1 hT
    injection hS with h2 hS
    subst h1 h2 hT hS
    obtain⟨l',us,el,rfl,hl5,ru⟩:=q0
    cases el
    have lu:=ru.len
    refine⟨us,hl5,small (by rw[er]at hc;simp at hc;omega),E6,acc++[d6],rest',e7,by rw[er];simp,F6,_,bf,fun b o qb=>?_,?_,.cons (A:=[l]) ⟨l,us++[y5],rfl,rfl,upd_same,ru.snoc ry⟩ (r0.mono fun o s C hs hC qq=>qq.stay (Same.refl _) (fun b hb=>aC fun z=>?_) fun z=>?_),nd,frn,rfl,pl⟩
    ·have lF:F6 l=none:=frn l (by simp)
     rw[aC (fun z=>by rw[z,lF]at qb;cases qb)]
     exact fh _ _ qb
    ·rw[pG hl5];exact tf
    ·have:=hC b hb
     rw[z]at this
     exact(List.nodup_cons.mp nd).1 this
    ·have:=pl s hs
     cases s <;> simp[Sl.isAl,Sl.isBr]at this z
 ·have e0:i=ds.length:=by omega
  refine .inl ⟨stop e0,?_⟩
  rw[e0,List.drop_length]at ei
  cases ei
  rw[oR]at er
  subst er
  obtain⟨g1,g2⟩:=fri.result hc.1
  exact q _ _ (fr1.told g1 g2)
theorem tJ{m2:Bool}{tt:TT}(htt:∀σ H Q,rt K m2 cond σ H Q→tt σ H Q){H:Hp}{Q:VK}(z:rd K m (bh js it tg cond el) σ H Q):Ac js (ri K m it) (rg K tg) tt (rd K m3 el) σ H Q:=by
 obtain⟨B,E,xs,Xs,res,E',fr,cl,e,q⟩:=z
 obtain⟨⟨ds,E1⟩,e1,e⟩:=Za.mp e
 obtain⟨rs,e2,e⟩:=Za.mp e
 simp only at e
 split at e
 ·rename_i hc
  cases e
  simp only[rC,decide_eq_true_eq]at hc
  exact⟨B,E,xs,Xs,ds,_,fr,cl,e1,fun B' J H1 hB ⟨F,A,fr1⟩ ok l hl=>BG htt (fr1.base hB) (fr1.bf.trans fr1.fh) ok e2 hc q l hl⟩
 ·cases e
theorem d_(C:CompOk X scope sc cl N js)(hc:X.calm=true)(hi:IX X target iter m it)(hg:∀C s₀ H₀ fp,GX (X.comp sc cl N C s₀ H₀ fp) target tg)(he:∀C s₀ H₀ fp,EX (X.comp sc cl N C s₀ H₀ fp) elt m3 el)
  (hs:∀x,foldedSetIterable iter X.env x=pure x:=by intro _;rfl):EX X (.ListComp elt [⟨target,iter,[],0⟩] scope pos) m (bh js it tg a_ el):=
 bA (Ad (g:=rg X.K tg) (te:=rd X.K m3 el) C hc hi hg (fun _ _ _ _=>Ab) he hs) fun σ H Q z=>tJ (m2:=false) (fun σ H Q z=>by
  obtain⟨B,E,xs,Xs,b,E',fr,cl,e,q⟩:=z
  cases e
  exact q _ fr) z
theorem pO{c:Expr}{m2:Bool}(C:CompOk X scope sc cl N js)(hc:X.calm=true)(hi:IX X target iter m it)(hg:∀C s₀ H₀ fp,GX (X.comp sc cl N C s₀ H₀ fp) target tg)(ht:∀C s₀ H₀ fp,TX (X.comp sc cl N C s₀ H₀ fp) c m2 cond)(he:∀C s₀ H₀ fp,EX (X.comp sc cl N C s₀ H₀ fp) elt m3 el)
  (hs:∀x,foldedSetIterable iter X.env x=pure x:=by intro _;rfl):EX X (.ListComp elt [⟨target,iter,[c],0⟩] scope pos) m (bh js it tg cond el):=
 bA (Ad (g:=rg X.K tg) (te:=rd X.K m3 el) (tt:=rt X.K m2 cond) C hc hi hg (fun _ _ _ _=>Gf (ht _ _ _ _)) he hs) fun σ H Q z=>tJ (m2:=m2) (fun _ _ _ z=>z) z
end
end PL
namespace PL
open PySem L2 Nh
def keyOf:PyData→Option jS
 |.int i=>some (.inl i)
 |.str x=>some (.inr x)
 |_=>none
end PL
namespace PL
open PySem L2 Nh
theorem Jr{K:Frag}{i:Nat}{H:Hp}(z:rs K (aH i f) D σ H):rd K m f σ H fun v H1=>CV i v σ H1 D.nx:=by
 obtain⟨B,E,xs,Xs,E',fl,fr,cl,e,q⟩:=z
 obtain⟨⟨s,E1⟩,e1,e⟩:=Za.mp e
 obtain⟨⟨s',E2⟩,e2,e⟩:=Za.mp e
 refine⟨B,E,xs,Xs,s,E1,fr,fun _=>Calm.nil cl,e1,fun v H1 ⟨F,A,fr1⟩=>?_⟩
 obtain⟨c1,F2,A2,fr2⟩:=fr1.settle cl e2
 simp only at e
 split at e
 ·rename_i hi
  cases e
  obtain⟨A3,fr3⟩:=fr2.store c1 (Still.nil cl) hi
  exact q _ _ ⟨F2,A3,fr3⟩
 ·cases e
section
variable {X:Cx} {elt target iter:Expr} {scope sc:Scope} {cl:List (Str×Addr)} {N:List Str} {pos spos px:Pos} {js:List (Option Nat)} {x:Str}
theorem vX(i:Nat)(hN:X.N.Nodup)(C:CompOk X scope sc cl N js)(hc:X.calm=true)(h:IX X target iter m it)(hg:∀C s₀ H₀ fp,GX (X.comp sc cl N C s₀ H₀ fp) target tg)(he:∀C s₀ H₀ fp,EX (X.comp sc cl N C s₀ H₀ fp) elt m3 el)
  (hi:X.N[i]? =some x:=by rfl) (hx:Io X.env.scope x:=by first |exact Or.inl rfl |exact Or.inr rfl) (hf:X.fn x=true∨X.env.scope.names.lookup x=some .local:=by first |exact .inl rfl |exact .inr rfl |assumption)
  (hs:∀x,foldedSetIterable iter X.env x=pure x:=by intro _;rfl) (hsw:swapsWith (.ListComp elt [⟨target,iter,[],0⟩] scope pos) (some (.Name x px)) spos.line X.env=pure true:=by rfl):
  SX X (.Assign [.Name x px] (.ListComp elt [⟨target,iter,[],0⟩] scope pos) spos) (aH i (bh js it tg a_ el)):=
 jX (Gg (g:=rg X.K tg) (te:=rd X.K m3 el) C hc (zT hN hi hx hf) h hg (fun _ _ _ _=>Ab) he hs hsw) fun D σ H z=>tJ (m2:=false) (fun σ H Q z=>by
  obtain⟨B,E,xs,Xs,b,E',fr,cl,e,q⟩:=z
  cases e
  exact q _ fr) (Jr z)
end
def Ln:Const→Option Int
 |.int i=>some i
 |_=>none
def Js:Expr→Option Int
 | .Constant c _ _=>Ln c
 |_=>none
def kJ:List Expr→Option (List Int)
 |[]=>some []
 |e::r=>(Js e).bind fun i=>(kJ r).map (i:: ·)
def rO(ns:List Int):kX:=fun E=>some (ns.map .int,E)
theorem Jt{i:Int}(h:Js e=some i):∃k p,e= .Constant (.int i) k p:=by
 unfold Js at h
 split at h
 ·unfold Ln at h
  split at h
  ·cases h;exact⟨_,_,rfl⟩
  ·cases h
 ·cases h
theorem Ap:∀{es:List Expr} {ns:List Int},kJ es=some ns→DX X es false (rO ns)
 |[],ns,h=>by cases h;exact DB
 |e::es,ns,h=>by
  obtain⟨i,h0,h⟩:=Za.mp h
  obtain⟨ms,h1,h⟩:=Zab.mp h
  subst h
  obtain⟨k,p,rfl⟩:=Jt h0
  exact Ak (m1:=false) (m2:=false) au (Ap h1) rfl
def Lo(body:List Stmt)(k:Nat):List Expr:=match body[k]? with
 |some (.Assign _ (.Subscript (.List es _) _ _) _)=>es
 |_=>[]
def MU(es:List Expr):Stmt→Stmt
 | .Assign t (.Subscript (.List _ p) i q) r=> .Assign t (.Subscript (.List es p) i q) r
 |s=>s
def Ju(es:List Expr):Nat→List Stmt→List Stmt
 |_,[]=>[]
 | 0,s::r=>MU es s::r
 |k+1,s::r=>s::Ju es k r
theorem yB{g:cI}(k:Nat)(ns:List Int)(h:kJ (Lo body k)=some ns)(hb:Ju (Lo body k) k body=body)(key:∀es,kJ es=some ns→vF X (Ju es k body) g):vF X body g:=by
 have:=key _ h
 rw[hb]at this
 exact this
end PL
namespace PL
open PySem L2 Nh
theorem gZ(xs:List α)(k:Nat):atI xs (k:Int)=xs[k]? :=by
 unfold atI K9
 rw[if_pos (by omega)]
 split
 ·simp
 ·rw[List.getElem?_eq_none (by omega)];rfl
theorem Lp(a:α)(l:List α):atI (a::l) 0=some a:=gZ (a::l) 0
theorem Jv{xs:List α}{i:Int}(h:0≤i):atI xs i=xs[i.toNat]? :=by
 have e:i=((i.toNat:Nat):Int):=by omega
 rw[e,gZ,Int.toNat_natCast]
theorem rP:∀{a:List PyData},(∀d∈a,fL d=true)→bL a=true
 |[],_=>rfl
 |x::a,h=>by simp[bL,h x (gE ..),rP fun d hd=>h d (gQ _ hd)]
theorem BH{f:α→PyData}(h:∀a,fL (f a)=true)(l:List α):bL (l.map f)=true:=rP fun d hd=>by
 obtain⟨a,_,rfl⟩:=Zbf.mp hd
 exact h a
theorem BI(l:List Int):bL (l.map PyData.int)=true:=BH (fun _=>rfl) l
def qR{α:Type}(l:List α)(lo hi:Option Int):List α:=(l.drop (HT.qO l.length 0 lo)).take (HT.qO l.length l.length hi - HT.qO l.length 0 lo)
theorem DM(f:α→PyData)(l:List α)(lo hi:Option Int):BA (l.map f) lo hi=(qR l lo hi).map f:=by
 unfold BA qR
 rw[eM,List.map_take,List.map_drop]
theorem vY(l:List α)(lo hi:Option Int):(qR l lo hi).length≤l.length:=by
 unfold qR
 rw[List.length_take,List.length_drop]
 omega
theorem iY(lo:Int)(n:Nat):iI lo (n+1)=.int lo::iI (lo+1) n:=by
 unfold iI
 rw[List.range_succ_eq_map,gR,List.map_map]
 simp only[Int.natCast_zero,Int.add_zero]
 congr 1
 refine List.map_congr_left fun k _=>?_
 show PyData.int (lo+((k+1:Nat):Int))=PyData.int (lo+1+(k:Int))
 congr 1
 omega
end PL
namespace L2
open PySem PySem.Spec PyProof.Rows
section
variable {X:Cx} {pins:List (Addr×Obj)} {σ:L2.St} {H:Hp} {s:Shared} {h':Heap}
theorem Inv.turnedL(I:Inv X pins σ H s)(k:∀b o,b∉fp→s.heap.get? b=some o→h'.get? b=some o)(hf:∀b∈fp,oS X pins H b):Inv X pins σ H {s with heap:=h',toks:=t'}:=by
 have nit:∀b u,H b=some u→b∉fp:=fun b u e z=>by rw[(hf b z).1]at e;cases e
 refine I.step (g':=s.gens) (d':=s.drawn) (ch:=fp) (fun b hb=>?_) (fun b o _ _ hc e _=>k b o hc e) (fun b o _ _ hc e _=>⟨o.slots,k b o hc e⟩) (fun _ _ _ _ n=>n)
  (fun b o hc e=>⟨o,k b o hc e⟩) (fun _ _ e=>e) (fun _ _ _ e=>e) (fun _ _ e=>e) (fun m hm=>?_) (fun b u e=>?_) I.bare
 ·obtain⟨f0,f1,f2,f3,f4,f5⟩:=hf b hb
  exact⟨f3,f1,f4,f5⟩
 ·obtain⟨o,es,ep,ho,r⟩:=hm
  exact⟨o,es,ep,k _ o (fun z=>(hf _ z).2.1 rfl) ho,r⟩
 ·refine(I.hok b u e).stay (fun c v hc q=>k c v ?_ q) (fun _ q=>q) fun _ _ q=>q
  rcases hc with z |z
  ·rw[z];exact nit b u e
  ·exact nit c _ z
theorem yC{c:Addr}(hc:c≠h.objs.size)(e:(h.push o').get? c=some o):h.get? c=some o:=(Heap.get?_push_cases e).elim (fun z=>absurd z.1 hc) id
theorem DN(I:Inv X pins σ H s)(r:Vals vs us)(hz:vs.length≤sizeLine):
  Inv X pins σ (upd H s.heap.objs.size (.tup vs)) {s with heap:=s.heap.push {cls:=.type "tuple",data:=.seq us.toArray},toks:=t'}:=
 I.laid (fun b u e=>gD _ e) (fz _) ⟨hz,us,r,⟨_,mf _ rfl,rfl,_,rfl⟩⟩
end
def Ml(x:Str):It:=⟨fun i _=>i < x.cps.toList.length,fun i H v H'=>H'=H∧∃c,x.cps.toList[i]? =some c∧v=.str ⟨#[c]⟩,fun i _=>i=x.cps.toList.length⟩
theorem DO{w:World} {K:Frag} {tg:Expr} {it:Addr}   {t:Tok} (hT:T="str_ascii_iterator"∨T="str_iterator"):Turn P w K tg (Ml x) [it] it (fun i h=>h.IsStrIter it T x t i) where
 mem:=by simp
 obj:=fun i h st b hb=>by
  have e:b=it:=by simpa using hb
  subst e
  obtain⟨o,e,c,d⟩:=st
  exact⟨o,e,fun v z=>by rw[d]at z;cases z⟩
 keep:=fun i h h' st k=>let ⟨o,ho,r⟩:=st;⟨o,k it (by simp) o ho,r⟩
 item:=by
  intro X hP hw hK hc i pins s σ H E I hf st hg
  subst hP hw hK
  obtain⟨f0,f1,f2,f3,f4,f5⟩:=hf it (by simp)
  have hi:i < x.cps.toList.length:=hg
  have hx:x.cps[i]? =some (x.cps.toList[i]'hi):=by simp at hi;simp[hi]
  have fin:∀(h':Heap),h'.IsStrIter it T x t (i+1)→Heap.SameBut it s.heap h'→∃u,some (Value.str ⟨#[x.cps.toList[i]'hi]⟩ s.toks)=some u∧
    wpAny (model X.prog X.w) X.A (letOwnedTupleGo tg (.ref it) u) (fun _ s2=>∃v H',Inv X pins σ H' s2∧RelV v u∧(Ml x).yld i H v H'∧s2.heap.IsStrIter it T x t (i+1)∧∀b∈[it],H' b=none) E {s with heap:=h',toks:=s.toks+1}:=fun h' st' sb=>by
   have I1:Inv X pins σ H {s with heap:=h',toks:=s.toks+1}:=I.turned (t':=s.toks+1) (fun b o hb e=>(sb.2 b hb).trans e) f0 f1 f3 f4 f5
   obtain⟨o,e,c,d⟩:=id st'
   exact⟨_,rfl,zU (s:={s with heap:=h',toks:=s.toks+1}) e c d (by rcases hT with rfl |rfl <;> decide) ⟨.str ⟨#[x.cps.toList[i]'hi]⟩,H,I1,⟨_,rfl⟩,⟨rfl,_,vH hi,rfl⟩,st',fun b hb=>(hf b hb).1⟩⟩
  rcases hT with rfl |rfl
  ·exact wpAny_pyNext_ascii_item st hx fun h' st' sb=>fin h' st' sb
  ·exact wpAny_pyNext_wide_item st hx fun h' st' sb=>fin h' st' sb
 done:=by
  intro X hP hw hK hc i pins s σ H E I hf st hg
  subst hP hw hK
  obtain⟨f0,f1,f2,f3,f4,f5⟩:=hf it (by simp)
  have hi:i=x.cps.toList.length:=hg
  have hx:x.cps[i]? =none:=by simp at hi;simp[hi]
  rcases hT with rfl |rfl
  ·exact wpAny_pyNext_ascii_end (I.ok.hd hc) st hx fun h' eb=>⟨rfl,I.turned (t':=s.toks) (fun b o hb e=>eb b o hb e) f0 f1 f3 f4 f5⟩
  ·exact wpAny_pyNext_wide_end (I.ok.hd hc) st hx fun h' eb=>⟨rfl,I.turned (t':=s.toks) (fun b o hb e=>eb b o hb e) f0 f1 f3 f4 f5⟩
 self:=fun _ _ _ _ _ st h=>by
  rcases hT with rfl |rfl
  ·exact wpAny_pyIter_striter_ascii st h
  ·exact wpAny_pyIter_striter_wide st h
def MV(tl:TE):TI:=fun σ H R=>tl σ H fun v H1=>∃x,v=.str x∧R (Ml x) H1
theorem Jw{tg l:Expr}{tl:TE}(hl:PE X l tl):PI X tg l (MV tl):=by
 intro pins s σ H R I h
 refine dw (hl pins s σ H _ I h) fun v s1 ⟨y,H1,I1,r1,q1⟩=>?_
 obtain⟨x,e,q⟩:=q1
 subst e
 obtain⟨t,rfl⟩:=r1
 refine wpAny_pyIter_strU ?_
 refine⟨s1.heap.objs.size,[s1.heap.objs.size],fun i h=>h.IsStrIter s1.heap.objs.size (strIterType x) x t i,_,H1,rfl,I1.kept (t':=s1.toks) fun b o e=>gD _ e,DO (t:=t) ?_,⟨_,mf _ rfl,rfl,rfl⟩,fun b hb=>?_,q⟩
 ·unfold strIterType
  split
  ·exact .inl rfl
  ·exact .inr rfl
 ·have e:b=s1.heap.objs.size:=by simpa using hb
  subst e
  exact I1.fpOk (fz _) (I1.hok.fresh (fz _))
theorem PI.or{tg l:Expr}{a b:TI}(h1:PI X tg l a)(h2:PI X tg l b):PI X tg l (fun σ H R=>a σ H R∨b σ H R):=by
 intro pins s σ H R I h
 rcases h with h |h
 ·exact h1 pins s σ H R I h
 ·exact h2 pins s σ H R I h
end L2
namespace PL
open PySem L2 Nh
def mn:Nat→List PyData→List PyData
 |_,[]=>[]
 |k,a::as=>.tuple [.int k,a]::mn (k+1) as
def fE(x:Str):List PyData:=x.cps.toList.map fun c=>.str ⟨#[c]⟩
def bw(f:ba):kX:=fun E=>(f E).bind fun a=>(frz a.2 a.1).bind fun b=>match b.1 with
 |.list ds=>some (ds,b.2)
 |.tuple ds=>some (ds,b.2)
 |.str x=>some (fE x,b.2)
 |_=>none
section
variable {X:Cx} {K:Frag} {B:Hp}
theorem rQ:∀{as:List PyData} {k i:Nat} {d:PyData},(mn k as)[i]? =some d→∃a,as[i]? =some a∧d=.tuple [.int ((k+i:Nat):Int),a]
 |a::as,k,0,d,e=>by simp[mn]at e;exact⟨a,rfl,by rw[←e];simp⟩
 |a::as,k,i+1,d,e=>by
  obtain⟨x,h1,h3⟩:=rQ (as:=as) (k:=k+1) (i:=i) (by simpa[mn]using e)
  exact⟨x,by simpa using h1,by rw[h3,show k+1+i=k+(i+1) by omega]⟩
 |[],_,_,_,e=>by simp[mn]at e
theorem rR:∀(k:Nat) (as:List PyData),(mn k as).length=as.length
 |_,[]=>rfl
 |k,a::as=>by simp[mn,rR (k+1) as]
theorem DP:vV K B (Ml x) (fE x):=fun {B' F A σ H E xs Xs} i sB fr=>by
 refine⟨fun d ed=>?_,fun e=>by show i=x.cps.toList.length;rw[e];simp[fE]⟩
 unfold fE at ed
 rw[zP]at ed
 obtain⟨c,ec,rfl⟩:=Zab.mp ed
 refine⟨(Zav.mp ec).1,fun z H2 ⟨e1,c',e2,e3⟩=>?_⟩
 rw[ec]at e2;cases e2
 subst e1 e3
 exact⟨F,A,fr.push ⟨rfl,_,rfl,.str _⟩⟩
theorem DQ(h:SqT K B a vs)(r:RpA K B vs ds):vV K B (MC K a) ds:=fun {B' F A σ H E xs Xs} i sB fr=>by
 have hH:=fr.fh.tup (fr.bf.tup (sB.tup h))
 refine⟨fun d ed=>?_,fun e=>⟨vs,hH,by rw[e,r.len];exact fz _⟩⟩
 obtain⟨v,ev,rv⟩:=r.get ed
 refine⟨⟨vs,v,hH,ev⟩,fun x H2 ⟨e2,y⟩=>?_⟩
 subst e2
 have:=y vs hH
 rw[ev]at this
 cases this
 exact⟨F,A,fr.push ⟨rfl,_,rfl,rv.same (sB.trans fr.bf)⟩⟩
theorem cC{tg:Expr}(he:EX X e m f):IX X tg e m (bw f):=tI (PI.or (FT he) (PI.or (ID he) (Jw he))) fun σ H R z=>by
 obtain⟨B,E,xs,Xs,ds,E',fr,cl,e,q⟩:=z
 obtain⟨⟨s,E1⟩,e1,e⟩:=Za.mp e
 obtain⟨⟨d,E2⟩,e2,e⟩:=Za.mp e
 have key:∀(v:V) (H1:Hp),Frm X.K B σ H1 E1 (v::xs) (s::Xs)→∃F2 A2 A3,Rp X.K F2 v d∧Same B F2∧FrF X.K F2 F2 A3 σ H1 E2 xs Xs∧FrF X.K B F2 A2 σ H1 E2 (v::xs) (.sh d::Xs):=fun v H1 ⟨F,A,fr1⟩=>by
  obtain⟨F2,A2,fr2⟩:=fr1.frz0 e2
  obtain⟨v',A1,ev,rfl,w,ew,r⟩:=fr2.ext (k:=0) rfl
  cases ev;cases ew
  obtain⟨A3,fr3⟩:=fr2.pop
  exact⟨F2,A2,A3,r,fr2.bf,fr3.raise,fr2⟩
 simp only at e
 split at e
 ·cases e
  refine .inl ⟨B,E,xs,Xs,s,E1,fr,cl,e1,fun v H1 fr1=>?_⟩
  obtain⟨F2,A2,A3,r,sb,fr3,fr2⟩:=key v H1 fr1
  cases r with
  |lst h1 h2=>exact⟨_,rfl,⟨_,fr2.fh.seq h1⟩,q F2 _ _ sb ⟨F2,A3,fr3⟩ (BE h1 h2)⟩
 ·cases e
  refine .inr (.inl ⟨B,E,xs,Xs,s,E1,fr,cl,e1,fun v H1 fr1=>?_⟩)
  obtain⟨F2,A2,A3,r,sb,fr3,fr2⟩:=key v H1 fr1
  cases r with
  |tup h1 h2=>exact⟨_,rfl,⟨_,fr2.fh.tup h1⟩,q F2 _ _ sb ⟨F2,A3,fr3⟩ (DQ h1 h2)⟩
 ·cases e
  refine .inr (.inr ⟨B,E,xs,Xs,s,E1,fr,cl,e1,fun v H1 fr1=>?_⟩)
  obtain⟨F2,A2,A3,r,sb,fr3,fr2⟩:=key v H1 fr1
  cases r
  exact⟨_,rfl,q F2 _ _ sb ⟨F2,A3,fr3⟩ DP⟩
 ·cases e
end
end PL
namespace PL
open PySem L2 Nh
inductive Cm where
 |lt |le |gt |ge
def Cm.op:Cm→CmpOp
 |.lt=> .Lt
 |.le=> .LtE
 |.gt=> .Gt
 |.ge=> .GtE
def Cm.i:Cm→Int→Int→Bool
 |.lt,i,j=>decide (i < j)
 |.le,i,j=>decide (i≤j)
 |.gt,i,j=>decide (j < i)
 |.ge,i,j=>decide (j≤i)
def Cm.s:Cm→List Nat→List Nat→Bool
 |.lt,i,j=>decide (i < j)
 |.le,i,j=> !decide (j < i)
 |.gt,i,j=>decide (j < i)
 |.ge,i,j=> !decide (i < j)
def g5(c:Cm):PyData→PyData→Option PyData
 |.int i,.int j=>some (.bool (c.i i j))
 |.str x,.str y=>some (.bool (c.s x.cps.toList y.cps.toList))
 |_,_=>none
def Nt(c:Cm):R2:=fun x y H Q=>(∃i j,x=.int i∧y=.int j∧Q (.bl (c.i i j)) H)∨(∃i j,x=.str i∧y=.str j∧Q (.bl (c.s i.cps.toList j.cps.toList)) H)
section
variable {X:Cx} {a b c:Expr} {m1 m2 m3:Bool} {f g h:ba} {pos:Pos} {K:Frag}
theorem DR(c:Cm):OpR X (compareOp c.op) (Nt c):=by
 cases c with
 |lt=>exact OpR.or K1 Bs
 |le=>exact OpR.or K3 (fun pins s σ H x y v u Q I rx ry h=>by
   obtain⟨i,j,rfl,rfl,q⟩:=h
   obtain⟨t,rfl⟩:=rx
   obtain⟨t',rfl⟩:=ry
   exact PySem.P.le_str (aZ I q rfl))
 |gt=>exact OpR.or K4 (fun pins s σ H x y v u Q I rx ry h=>by
   obtain⟨i,j,rfl,rfl,q⟩:=h
   obtain⟨t,rfl⟩:=rx
   obtain⟨t',rfl⟩:=ry
   exact PySem.P.gt_str (aZ I q rfl))
 |ge=>exact OpR.or K5 (fun pins s σ H x y v u Q I rx ry h=>by
   obtain⟨i,j,rfl,rfl,q⟩:=h
   obtain⟨t,rfl⟩:=rx
   obtain⟨t',rfl⟩:=ry
   exact PySem.P.ge_str (aZ I q rfl))
theorem DS(c:Cm):Bz K (Nt c) (g5 c):=fun d1 d2 d v1 v2 H Q e r1 r2=>by
 unfold g5 at e
 split at e
 ·cases e;cases r1;cases r2
  exact⟨_,rfl,fun q=>.inl ⟨_,_,rfl,rfl,q⟩⟩
 ·cases e;cases r1;cases r2
  exact⟨_,rfl,fun q=>.inr ⟨_,_,rfl,rfl,q⟩⟩
 ·cases e
theorem BJ(c:Cm)(b:Expr):behindInMarks c.op b=false:=by cases c <;> exact sW _
theorem rS(c:Cm)(ha:EX X a m1 f)(hb:EX X b m2 g):TX X (.Compare a [c.op] [b] pos) (m1||m2) (d5 (ah (jf (g5 c)) m2 f g)):=tz (DR c) (nu (DS c)) ha hb (BJ c b)
theorem Lq(c1 c2:Cm)(ha:EX X a m1 f)(hb:EX X b m2 g)(hc:EX X c m3 h)(hm:lastMarks [c1.op,c2.op] [b,c]=false:=by with_unfolding_all rfl):EX X (.Compare a [c1.op,c2.op] [b,c] pos) (m1||(m2||m3)) (tB (g5 c1) (g5 c2) m2 m3 f g h):=Dx (DR c1) (DR c2) (DS c1) (DS c2) ha hb hc hm
def DT:P2:=jf (Dm (fun _ j=>decide (0≤j)) fun i j=>.int (i / 2 ^ j.toNat))
def vZ:P2:=jf (Dm (fun _ _=>true) fun i j=>.int (Builtin.bitAnd i j))
theorem DU(ha:EX X a m1 f)(hb:EX X b m2 g):EX X (.BinOp a .RShift b pos) (m1||m2) (ah DT m2 f g):=oq (r:=HN (fun _ j=>decide (0≤j)) fun i j=>.int (i / 2 ^ j.toNat)) (OpR.imp IK fun x y H Q ⟨i,j,a,b,c,q⟩=>⟨i,j,a,b,zz5 c,q⟩) (nv fun _ _=>rfl) ha hb
theorem tK(ha:EX X a m1 f)(hb:EX X b m2 g):EX X (.BinOp a .BitAnd b pos) (m1||m2) (ah vZ m2 f g):=oq (r:=HN (fun _ _=>true) fun i j=>.int (Builtin.bitAnd i j)) (OpR.imp IL fun x y H Q ⟨i,j,a,b,_,q⟩=>⟨i,j,a,b,q⟩) (nv fun _ _=>rfl) ha hb
def gz:List PyData→Option (List Str)
 |[]=>some []
 |.str x::ds=>(gz ds).map fun xs=>x::xs
 |_::_=>none
def tL:List PyData→Option (List Int)
 |[]=>some []
 |.int x::ds=>(tL ds).map fun xs=>x::xs
 |_::_=>none
theorem iZ:∀{ds:List PyData} {xs:List Str},gz ds=some xs→ds=xs.map .str
 |[],xs,h=>by cases h;rfl
 |d::ds,xs,h=>by
  cases d with
  |str x=>
   obtain⟨ys,e,rfl⟩:=Zab.mp h
   rw[iZ e];rfl
  |_=>cases h
theorem ny:∀{ds:List PyData} {xs:List Int},tL ds=some xs→ds=xs.map .int
 |[],xs,h=>by cases h;rfl
 |d::ds,xs,h=>by
  cases d with
  |int x=>
   obtain⟨ys,e,rfl⟩:=Zab.mp h
   rw[ny e];rfl
  |_=>cases h
theorem jZ{H:Hp}:∀{vs:List V} {xs:List Str},RpA K H vs (xs.map .str)→vs=xs.map .str
 |[],[],_=>rfl
 |v::vs,x::xs,.cons h r=>by cases h;rw[jZ r];rfl
theorem pP{H:Hp}:∀{vs:List V} {xs:List Int},RpA K H vs (xs.map .int)→vs=xs.map .int
 |[],[],_=>rfl
 |v::vs,x::xs,.cons h r=>by cases h;rw[pP r];rfl
def Lr:PyData→PyData→Option Bool
 |.str x,.str y=>some (!(Builtin.Str.occurrences y x 0 y.length 1).isEmpty)
 |.str x,.list ds=>(gz ds).map fun xs=>xs.contains x
 |.str x,.tuple ds=>(gz ds).map fun xs=>xs.contains x
 |.int x,.list ds=>(tL ds).map fun xs=>xs.contains x
 |.int x,.tuple ds=>(tL ds).map fun xs=>xs.contains x
 |_,_=>none
def Ls(K:Frag)(neg:Bool):R2:=fun x y H Q=>(∃i j,x=.str i∧y=.str j∧Q (.bl (if neg then !(!(Builtin.Str.occurrences j i 0 j.length 1).isEmpty)else !(Builtin.Str.occurrences j i 0 j.length 1).isEmpty)) H)∨Nq K neg x y H Q
theorem v_(x:Str)(xs:List Str):KB (.str x) (xs.map .str)=xs.contains x:=by
 induction xs with
 |nil=>rfl
 |cons y xs ih=>
  rw[List.contains_cons,←ih]
  show(FG (.str y) (.str x)||KB (.str x) (xs.map .str))=_
  congr 1
  show(y == x)=(x == y)
  exact BEq.comm
theorem wa(x:Int)(xs:List Int):KB (.int x) (xs.map .int)=xs.contains x:=by
 induction xs with
 |nil=>rfl
 |cons y xs ih=>
  rw[List.contains_cons,←ih]
  show(FG (.int y) (.int x)||KB (.int x) (xs.map .int))=_
  congr 1
  show(y == x)=(x == y)
  exact BEq.comm
theorem DV(neg:Bool):Bz K (Ls K neg) (fun d1 d2=>(Lr d1 d2).map fun b=>.bool (if neg then !b else b)):=fun d1 d2 d v1 v2 H Q e r1 r2=>by
 obtain⟨b,e',rfl⟩:=Zab.mp e
 clear e
 have e:=e'
 clear e'
 refine⟨_,rfl,fun q=>?_⟩
 have hs:∀xs:List Str,(xs.map V.str).all iB=true:=fun xs=>by simp[List.all_eq_true,iB]
 have hi:∀xs:List Int,(xs.map V.int).all iB=true:=fun xs=>by simp[List.all_eq_true,iB]
 unfold Lr at e
 split at e
 ·cases e;cases r1;cases r2
  exact .inl ⟨_,_,rfl,rfl,q⟩
 ·obtain⟨xs,ex,rfl⟩:=Zab.mp e
  cases r1
  cases r2 with
  |lst h1 h2=>
   rw[iZ ex]at h2
   rw[jZ h2]at h1
   exact .inr ⟨_,_,rfl,.inl h1,rfl,hs _,by rw[v_];exact q⟩
 ·obtain⟨xs,ex,rfl⟩:=Zab.mp e
  cases r1
  cases r2 with
  |tup h1 h2=>
   rw[iZ ex]at h2
   rw[jZ h2]at h1
   exact .inr ⟨_,_,rfl,.inr h1,rfl,hs _,by rw[v_];exact q⟩
 ·obtain⟨xs,ex,rfl⟩:=Zab.mp e
  cases r1
  cases r2 with
  |lst h1 h2=>
   rw[ny ex]at h2
   rw[pP h2]at h1
   exact .inr ⟨_,_,rfl,.inl h1,rfl,hi _,by rw[wa];exact q⟩
 ·obtain⟨xs,ex,rfl⟩:=Zab.mp e
  cases r1
  cases r2 with
  |tup h1 h2=>
   rw[ny ex]at h2
   rw[pP h2]at h1
   exact .inr ⟨_,_,rfl,.inr h1,rfl,hi _,by rw[wa];exact q⟩
 ·cases e
def Jx(neg:Bool):P2:=jf fun d1 d2=>(Lr d1 d2).map fun b=>.bool (if neg then !b else b)
theorem DW:OpR X (compareOp .In) (Ls X.K false):=OpR.or Bt Bw
theorem Lu(ha:EX X a m1 f)(hb:EX X b m2 g)(hm:behindInMarks .In b=false:=by with_unfolding_all rfl):EX X (.Compare a [.In] [b] pos) (m1||m2) (ah (Jx false) m2 f g):=Dl DW (nu (DV false)) ha hb hm
theorem Lv(ha:EX X a m1 f)(hb:EX X b m2 g)(hm:behindInMarks .In b=false:=by with_unfolding_all rfl):TX X (.Compare a [.In] [b] pos) (m1||m2) (d5 (ah (Jx false) m2 f g)):=tz DW (nu (DV false)) ha hb hm
end
def rT(x:Str):PyData→Option PyData
 |.list ds=>(gz ds).bind fun ys=>if (ys.map (·.length)).sum+ys.length*x.length≤1000000 then some (.str (Txt.join x ys))else none
 |.tuple ds=>(gz ds).bind fun ys=>if (ys.map (·.length)).sum+ys.length*x.length≤1000000 then some (.str (Txt.join x ys))else none
 |_=>none
theorem rV{ys:List Str}:∀{us:List Value},Vals (ys.map V.str) us→PyProof.Rows.StrsAre us ys:=by
 induction ys with
 |nil=>intro us h;cases h;exact .nil
 |cons y ys ih=>
  intro us h
  cases h with
  |cons h r=>
   obtain⟨t,rfl⟩:=h
   exact .cons y t (ih r)
def Lw(K:Frag):V→List V→Hp→VK→Prop:=fun x vs H Q=>∃z p ys,x=.str z∧vs=[.ref p]∧(SqL K H p (ys.map .str)∨SqT K H p (ys.map .str))∧(ys.map (·.length)).sum+ys.length*z.length≤16777216∧Q (.str (Txt.join z ys)) H
theorem Gy:K_ X "str.join" (Lw X.K):=by
 intro pins s σ H x vs v us Q I rx rv h
 obtain⟨z,p,ys,rfl,rfl,hq,hl,q⟩:=h
 obtain⟨t,rfl⟩:=rx
 obtain⟨u,rfl,ru⟩:=rv.one
 cases ru
 rcases hq with hq |hq
 ·obtain⟨its,r,pl,_⟩:=I.list hq
  exact PyProof.Rows.join_list pl.isList (by simpa using rV r) hl fun t' k=>⟨.str _,H,I.tok _,⟨_,rfl⟩,q⟩
 ·obtain⟨its,r,pl,_⟩:=I.tuple hq
  exact PyProof.Rows.join_tuple pl (by simpa using rV r) hl fun t' k=>⟨.str _,H,I.tok _,⟨_,rfl⟩,q⟩
section
variable {X:Cx} {e o:Expr} {m1 m2:Bool} {g:nq} {f h:ba} {p pos apos cpos:Pos} {K:Frag}
def iD(x:Str)(f:ba):ba:=lA (rT x) f
theorem kK{sp:Pos} (he:EX X e m1 f) (hs:starEach [e] X.env=[(false,eval e X.env)]:=by rfl) (hbase:attributeBase (.Constant (.str x) j sp) "join" X.env (eval (.Constant (.str x) j sp) X.env)=eval (.Constant (.str x) j sp) X.env:=by rfl)
  (hfew:((backTo cpos (starEach [e] X.env)).all (fun x=> !x.1)&&(backToKw cpos (keywordEach [] X.env)).all (fun x=>x.1.isSome)
   &&decide (([e]:List Expr).length+([]:List Keyword).length+(if ([]:List Keyword).isEmpty then 0 else 1) < 30))=true:=by rfl) (hline:(apos.endLine == cpos.line)=true:=by rfl):
  EX X (.Call (.Attribute (.Constant (.str x) j sp) "join" apos) [e] [] cpos) m1 (iD x f):=by
 refine bA (vM PySem.F.plainAttrs_str PySem.F.slot_str_join PySem.F.type_str_join Gy (sU) (bU he d0 hs) hbase hfew hline hs rfl) fun σ H Q z=>?_
 obtain⟨B,E,xs,Xs,res,E',fr,c,e,q⟩:=z
 obtain⟨⟨s1,E1⟩,e1,e⟩:=Za.mp e
 obtain⟨d1,e2,e⟩:=Za.mp e
 obtain⟨d,e3,e⟩:=Zab.mp e
 cases e
 refine⟨rfl,B,E,xs,Xs,s1,E1,fr,c,e1,fun v1 H1 ⟨F,A,fr1⟩=>?_⟩
 have r:=(fr1.look0 e2).1
 obtain⟨A',fr2⟩:=fr1.pop
 unfold rT at e3
 split at e3
 ·obtain⟨ys,ey,e3⟩:=Za.mp e3
  split at e3
  ·rename_i hl
   cases e3
   cases r with
   |lst h1 h2=>
    rw[iZ ey]at h2
    rw[jZ h2]at h1
    exact⟨x,_,ys,rfl,rfl,.inl h1,by omega,q _ _ ⟨F,A',fr2.push ⟨rfl,_,rfl,.str _⟩⟩⟩
  ·cases e3
 ·obtain⟨ys,ey,e3⟩:=Za.mp e3
  split at e3
  ·rename_i hl
   cases e3
   cases r with
   |tup h1 h2=>
    rw[iZ ey]at h2
    rw[jZ h2]at h1
    exact⟨x,_,ys,rfl,rfl,.inr h1,by omega,q _ _ ⟨F,A',fr2.push ⟨rfl,_,rfl,.str _⟩⟩⟩
  ·cases e3
 ·cases e3
end
theorem ef:SX X st (fun _=>none):=jX CU fun D σ H z=>by
 obtain⟨B,E,xs,Xs,E',fl,fr,cl,e,q⟩:=z
 cases e
def cL:cI:=fun _=>none
end PL
namespace PL
open PySem L2 Nh
theorem Jy:SlR X (fun x lo hi H Q=>∃z,x=.str z∧z.length≤sizeLine∧Q (.str (Txt.slice z lo hi)) H):=by
 intro pins s σ H x v vl vu lo hi sl Q I rx hs pl pu h
 obtain⟨z,rfl,hz,q⟩:=h
 obtain⟨t,rfl⟩:=rx
 cases pl with
 |none=>
  cases pu with
  |none=>exact⟨"str",_,PySem.F.slot_str_getitem.lookup,typeIs_str _ _ _,wpAny_getItem_str_slice (l:=none) (u:=none) (st:=none) hs rfl (post_val_or_str ⟨jP (Txt.slice_le z _ _) hz,fun t' k=>⟨.str _,H,I.tok _,⟨_,rfl⟩,q⟩⟩)⟩
  |int j uj=>exact⟨"str",_,PySem.F.slot_str_getitem.lookup,typeIs_str _ _ _,wpAny_getItem_str_slice (l:=none) (u:=some (j,uj)) (st:=none) hs rfl (post_val_or_str ⟨jP (Txt.slice_le z _ _) hz,fun t' k=>⟨.str _,H,I.tok _,⟨_,rfl⟩,q⟩⟩)⟩
 |int i ui=>
  cases pu with
  |none=>exact⟨"str",_,PySem.F.slot_str_getitem.lookup,typeIs_str _ _ _,wpAny_getItem_str_slice (l:=some (i,ui)) (u:=none) (st:=none) hs rfl (post_val_or_str ⟨jP (Txt.slice_le z _ _) hz,fun t' k=>⟨.str _,H,I.tok _,⟨_,rfl⟩,q⟩⟩)⟩
  |int j uj=>exact⟨"str",_,PySem.F.slot_str_getitem.lookup,typeIs_str _ _ _,wpAny_getItem_str_slice (l:=some (i,ui)) (u:=some (j,uj)) (st:=none) hs rfl (post_val_or_str ⟨jP (Txt.slice_le z _ _) hz,fun t' k=>⟨.str _,H,I.tok _,⟨_,rfl⟩,q⟩⟩)⟩
def oX(m2:Bool)(f:ba)(lo hi:Jj):ba:=fun E=>(f E).bind fun a=>if m2&&a.1.isBr then none else (lo a.2).bind fun b=>(hi b.2).bind fun c=>match look c.2 a.1 with
 |some (.list ds)=>if !pH c.2 a.1||bL (BA ds b.1 c.1)then some (.ow (BA ds b.1 c.1),c.2)else none
 |some (.str z)=>if z.length≤1000000 then some (.sh (.str (Txt.slice z b.1 c.1)),c.2)else none
 |_=>none
theorem tM{lo hi:Option Expr}{m2:Bool}{g h:Jj}{pos:Pos}(he:EX X e m1 f)(hl:OX X lo m2 g)(hh:OX X hi m3 h):EX X (.Subscript e (.Slice lo hi none p2) pos) (m1||(m2||m3)) (oX (m2||m3) f g h):=by
 refine bA (Db (SlR.or Gb Jy) he hl hh) fun σ H Q z=>?_
 obtain⟨B,E,xs,Xs,res,E',fr,cl,e,q⟩:=z
 obtain⟨⟨s,E1⟩,e1,e⟩:=Za.mp e
 by_cases hb:((m2||m3)&&s.isBr)=true
 ·rw[if_pos hb]at e;cases e
 rw[if_neg hb]at e
 have n1:(m2||m3)=true→s.isBr=false:=fun z=>by
  cases hs:s.isBr with
  |false=>rfl
  |true=>exact absurd (by rw[z,hs];rfl) hb
 obtain⟨⟨l,E2⟩,e2,e⟩:=Za.mp e
 obtain⟨⟨u,E3⟩,e3,e⟩:=Za.mp e
 refine⟨B,E,xs,Xs,s,E1,fr,fun z=>cl (by simp[z]),e1,fun v1 H1 fr1=>?_⟩
 refine⟨B,E1,v1::xs,s::Xs,l,E2,fr1,fun z=>Calm.cons (cl (by simp[z])) (n1 (by simp[z])),e2,fun H2 fr2=>?_⟩
 refine⟨B,E2,v1::xs,s::Xs,u,E3,fr2,fun z=>Calm.cons (cl (by simp[z])) (n1 (by simp[z])),e3,fun H3 ⟨F,A,fr3⟩=>?_⟩
 simp only at e
 split at e
 ·rename_i ds ld
  split at e
  ·rename_i hc
   cases e
   obtain⟨v,ev,r,f0⟩:=fr3.look (k:=0) rfl ld
   cases ev
   obtain⟨A',fr4⟩:=fr3.pop
   cases hh:pH E' s with
   |false=>
    obtain⟨a,vs,rfl,h1,h2⟩:=f0 hh
    exact .inl ⟨a,vs,rfl,h1,fun p hp=>q _ _ ⟨F,_,fr4.newl (h2.cut l u) hp⟩⟩
   |true=>
    rw[hh]at hc
    cases r with
    |lst h1 h2=>exact .inl ⟨_,_,rfl,h1,fun p hp=>q _ _ ⟨F,_,fr4.newl (fr3.coldA (h2.cut l u) (by simpa using hc)) hp⟩⟩
  ·cases e
 ·rename_i z ld
  split at e
  ·rename_i hc
   cases e
   have r:=(fr3.look0 ld).1
   cases r
   obtain⟨A',fr4⟩:=fr3.pop
   exact .inr ⟨_,rfl,gX hc,q _ _ ⟨F,A',fr4.push ⟨rfl,_,rfl,.str _⟩⟩⟩
  ·cases e
 ·cases e
def j0(i:Nat):ba:=fun E=>match E[i]? with
 |some (.ow ds)=>some (.sh .none,E.set i (.ow ds.reverse))
 |_=>none
section
variable {X:Cx} {e:Expr} {m1:Bool} {f:ba} {x:Str} {p apos cpos:Pos}
theorem pQ(i:Nat) (hN:X.N[i]? =some x:=by rfl) (hv:Bl X.env.scope x:=by first |exact Or.inl rfl |exact Or.inr (Or.inl rfl) |exact Or.inr (Or.inr rfl)) (hd:(x == ("__debug__":Str))=false:=by decide) (hcd:(x == ("__classdict__":Str))=false:=by decide)
  (hbase:attributeBase (.Name x p) "reverse" X.env (eval (.Name x p) X.env)=eval (.Name x p) X.env:=by rfl) (hline:(apos.endLine == cpos.line)=true:=by rfl):
  EX X (.Call (.Attribute (.Name x p) "reverse" apos) [] [] cpos) true (j0 i):=by
 refine bA (Df PySem.F.plainAttrs_list PySem.F.slot_list_reverse PySem.F.type_list_reverse xY (lr hN hv hd hcd) hbase hline) fun σ H Q z=>?_
 obtain⟨B,E,xs,Xs,res,E',⟨F,A,fr⟩,cl,e,q⟩:=z
 unfold j0 at e
 split at e
 ·rename_i ds ei
  cases e
  obtain⟨l,vs,eo,hl,r,put⟩:=fr.mut ei (cl rfl)
  have fr2:=put vs.reverse ds.reverse r.rev
  exact⟨_,eo,.inl ⟨rfl,_,SqL.of hl⟩,l,vs,rfl,rfl,hl,q _ _ ⟨_,_,fr2.push ⟨rfl,_,rfl,.non⟩⟩⟩
 ·cases e
end
def wb(scope:Scope)(env:Env):List (Str×Addr):=((scope.names.filter fun p=>p.2 ==.free).map fun p=>(p.1,(env.cells.lookup p.1).getD 0)).reverse
theorem gh{N:List Str}(clos:closureFor scope X.env=pure (wb scope X.env):=by rfl)(nocell:∀y∈scope.names,y.2≠ .cell:=by decide+kernel)(kind:scope.kind=.function:=by rfl)
  (names:∀y∈scope.names,y.2=.local→scope.names.lookup y.1=some .local:=by decide+kernel) (same:(scope.names.filter fun p=>p.2 ==.free).all (fun p=>(X.env.cells.lookup p.1).isSome)=true:=by rfl)
  (has:(relabel scope X.env).names.all (fun y=> !(y.2 ==.cell||y.2 ==.free)||((wb scope X.env).lookup y.1).isSome)=true:=by rfl) (len:js.length=N.length:=by rfl)
  (fr:(js.zip N).all (fun p=>match p.1 with |none=>true |some j=>X.N[j]? == some p.2&&((relabel scope X.env).names.lookup p.2 == some .cell||(relabel scope X.env).names.lookup p.2 == some .free)&&(X.env.kindOf p.2 == some .cell||X.env.kindOf p.2 == some .free))=true:=by rfl):
  CompOk X scope (relabel scope X.env) (wb scope X.env) N js where
 clos:=clos
 rel:=rfl
 nocell:=nocell
 kind:=kind
 names:=names
 same:=fun x c e=>by
  have hm:=PySem.mem_of_lookup e
  unfold wb at hm
  obtain⟨p,hp,ep⟩:=Zbf.mp (List.mem_reverse.mp hm)
  have:=List.all_eq_true.mp same _ hp
  obtain⟨c',ec⟩:=Option.isSome_iff_exists.mp this
  injection ep with e1 e2
  subst e1
  rw[ec]at e2 ⊢
  exact congrArg some e2
 has:=fun x h=>by
  have key:∀k,(relabel scope X.env).names.lookup x=some k→(k == NameKind.cell||k == NameKind.free)=true→∃c,(wb scope X.env).lookup x=some c:=fun k h hk=>by
   have:=List.all_eq_true.mp has _ (PySem.mem_of_lookup h)
   simp only[hk,Bool.not_true,Bool.false_or]at this
   exact Option.isSome_iff_exists.mp this
  rcases h with h |h
  ·exact key _ h rfl
  ·exact key _ h rfl
 len:=len
 from_:=fun i j h=>by
  have hi:i < js.length:=(Zav.mp h).1
  obtain⟨x,ex⟩:∃x,N[i]? =some x:=⟨N[i]'(by omega),vH (by omega)⟩
  have hz:(js.zip N)[i]? =some (some j,x):=by rw[List.getElem?_zip_eq_some];exact⟨h,ex⟩
  have:=List.all_eq_true.mp fr _ (List.mem_of_getElem? hz)
  simp only[rC,Bool.or_eq_true,beq_iff_eq]at this
  exact⟨x,ex,this.1.1,this.1.2,this.2⟩
structure Bn (mg:Str→Option Value):Prop where
 len:mg "len"=none
 range:mg "range"=none
 abs:mg "abs"=none
 min:mg "min"=none
 max:mg "max"=none
 reversed:mg "reversed"=none
 enumerate:mg "enumerate"=none
 isinstance:mg "isinstance"=none
 list:mg "list"=none
 tuple:mg "tuple"=none
 str:mg "str"=none
 int:mg "int"=none
 bool:mg "bool"=none
 sorted:mg "sorted"=none
 zip:mg "zip"=none
 sum:mg "sum"=none
 any:mg "any"=none
 all:mg "all"=none
 set:mg "set"=none
 dict:mg "dict"=none
theorem Lx{K:Frag}{mg:Str→Option Value}(X:K.In h)(G:h.Ns mainGlobals mg)
  (z1:nsIn K mainGlobals "len"=some none) (z2:nsIn K mainGlobals "range"=some none) (z3:nsIn K mainGlobals "abs"=some none) (z4:nsIn K mainGlobals "min"=some none) (z5:nsIn K mainGlobals "max"=some none) (z6:nsIn K mainGlobals "reversed"=some none) (z7:nsIn K mainGlobals "enumerate"=some none) (z8:nsIn K mainGlobals "isinstance"=some none) (z9:nsIn K mainGlobals "list"=some none) (z10:nsIn K mainGlobals "tuple"=some none) (z11:nsIn K mainGlobals "str"=some none) (z12:nsIn K mainGlobals "int"=some none) (z13:nsIn K mainGlobals "bool"=some none) (z14:nsIn K mainGlobals "sorted"=some none) (z15:nsIn K mainGlobals "zip"=some none) (z16:nsIn K mainGlobals "sum"=some none) (z17:nsIn K mainGlobals "any"=some none) (z18:nsIn K mainGlobals "all"=some none) (z19:nsIn K mainGlobals "set"=some none) (z20:nsIn K mainGlobals "dict"=some none):Bn mg:=
 ⟨mg_none_of X G z1,mg_none_of X G z2,mg_none_of X G z3,mg_none_of X G z4,mg_none_of X G z5,mg_none_of X G z6,mg_none_of X G z7,mg_none_of X G z8,mg_none_of X G z9,mg_none_of X G z10,mg_none_of X G z11,mg_none_of X G z12,mg_none_of X G z13,mg_none_of X G z14,mg_none_of X G z15,mg_none_of X G z16,mg_none_of X G z17,mg_none_of X G z18,mg_none_of X G z19,mg_none_of X G z20⟩
end PL
namespace PL
open PySem PySem.Spec L2 Nh PyProof.Rows
def NI(i:Int):Prop:= -1000000≤i∧i≤1000000
instance (i:Int):Decidable (NI i):=inferInstanceAs (Decidable (_∧_))
theorem fits{i:Int}(h: -10000000≤i∧i≤10000000):Builtin.Range.rangeFitsLong i=true:=by
 unfold Builtin.Range.rangeFitsLong
 simp only[rC,decide_eq_true_eq]
 omega
end PL
namespace PL
open PySem L2 Nh
theorem DY{w:World}{K:Frag}{mg:Str→Option Value}{base:Heap}{N:List Str}(D:Def K mg x st ps)(S:FnScope N ps (ak st)):Own P w K mg base (k+1) x ps (gw K fun _=>none):=by
 refine D.own S (fun vs H Q E h=>?_) (fun f cdv A outer s H vs Q E hr h=>?_)
 ·obtain⟨ds,r,e,_⟩:=h
  cases e
 ·obtain⟨ds,r,e,_⟩:=h
  cases e
end PL
namespace PL
open PySem L2 Nh
def gI:List PyData→Option (List Bool)
 |[]=>some []
 |.bool b::ds=>(gI ds).map (b:: ·)
 |_=>none
def Gz:List PyData→Option PyData
 |[.list ds]=>(gI ds).map fun bs=>.bool (bs.all id)
 |_=>none
def yD(K:Frag)(f:List Bool→Bool):List V→Hp→VK→Prop:=fun xs H Q=>∃p bs,xs=[.ref p]∧SqL K H p (bs.map V.bl)∧Q (.bl (f bs)) H
theorem mq{K:Frag}{H:Hp}:∀{vs:List V} {ds:List PyData} {bs:List Bool},RpA K H vs ds→gI ds=some bs→vs=bs.map V.bl
 |_,_,bs,.nil,e=>by cases e;rfl
 |_,_,bs,.cons (d:=d) h t,e=>by
  cases d <;> simp[gI]at e
  obtain⟨cs,e,rfl⟩:=e
  cases h
  rw[mq t e]
  rfl
theorem DZ{K:Frag}{f:List Bool→Bool}:DH K (yD K f) (fun ds=>match ds with
 |[.list ds]=>(gI ds).map fun bs=>.bool (f bs)
 |_=>none):=fun ds d vs H Q e r=>by
 simp only at e
 split at e
 ·obtain⟨bs,eb,rfl⟩:=Zab.mp e
  obtain⟨v,rfl,r1⟩:=r.one
  cases r1 with
  |lst h1 h2=>
   have:=mq h2 eb
   subst this
   exact⟨_,rfl,fun q=>⟨_,bs,rfl,h1,q⟩⟩
 ·cases e
theorem rW:∀bs:List Bool,(List.range bs.length).all (fun i=>bs.getD i false)=bs.all id
 |[]=>rfl
 |b::bs=>by
  rw[List.length_cons,List.range_succ_eq_map,List.all_cons,List.all_map,List.all_cons,←rW bs]
  rfl
section
variable {X:Cx} {e:Expr} {es:List Expr} {m1:Bool} {g:nq} {p pos:Pos}
theorem pR:∀{bs:List Bool} {us:List Value},Vals (bs.map V.bl) us→us=bs.map Value.bool
 |[],_,.nil=>rfl
 |b::bs,_,.cons h t=>by cases h;rw[pR t];rfl
theorem GA{bs:List Bool}{i:Nat}{v:Value}(h:(bs.map Value.bool).toArray[i]? =some v):v=.bool (bs.getD i false):=by
 rw[List.getElem?_toArray,zP]at h
 obtain⟨b,e,rfl⟩:=Zab.mp h
 rw[List.getD_eq_getElem?_getD,e]
 rfl
theorem BK(hc:X.calm=true):CallR X (.builtin "all") (yD X.K fun bs=>bs.all id):=by
 intro pins s σ H xs us Q I r h
 obtain⟨a,bs,rfl,hq,q⟩:=h
 cases r with
 |cons r rr=>
  cases rr
  cases r
  obtain⟨its,rv,pl,hz⟩:=I.list hq
  have:=pR rv
  subst this
  obtain⟨o,n,eo,_⟩:=id pl
  have hlt:a < s.heap.objs.size:=fP eo
  refine call_all_walk (wpAny_pyIter_list pl.isList ?_)
  refine⟨s.heap.objs.size,_,_,_,_,_,fun i=>bs.getD i false,rfl,Walks.list (A:=X.A.in1) (I.ok.hd hc) s.heap.objs.size a (gS hlt) (bs.map Value.bool).toArray,?_,?_,?_⟩
  ·exact⟨⟨_,mf _ rfl,rfl,rfl⟩,pl.isList.at fun o e=>gD _ e⟩
  ·intro i v s Q E hv hQ
   rw[GA hv]
   exact wpAny_truthy_bool hQ
  ·intro h' tk hk
   refine⟨.bl _,H,I.kept (t':=tk) fun b o e=>hk b o (fun z=>?_) (gD _ e),rfl,?_⟩
   ·have:b=s.heap.objs.size:=by simpa using z
    exact Nat.lt_irrefl _ (this▸fP e)
   ·rw[show((bs.map Value.bool).toArray).size=bs.length by simp,rW]
    exact q
theorem Jz(hc:X.calm=true) (hg:Gl X "all") (hm:X.mg "all"=none) (ha:AX X [e] m1 g) (he:starEach [e] X.env=[(false,eval e X.env)]:=by rfl):EX X (.Call (.Name "all" p) [e] [] pos) m1 (cb Gz g):=mj (r:=yD X.K fun bs=>bs.all id) DZ (BK hc) hg hm PyProof.Rows.boot_all ha (by decide) (by decide) he rfl
def rX:List PyData→Option (List Int)
 |[]=>some []
 |.int i::ds=>(rX ds).map (i:: ·)
 |_=>none
def BL:List PyData→Option PyData
 |[.list ds]=>(rX ds).map fun ns=>.int ns.sum
 |_=>none
def JA(K:Frag):List V→Hp→VK→Prop:=fun xs H Q=>∃(p:Addr) (ns:List Int),xs=[.ref p]∧SqL K H p (ns.map V.int)∧Q (.int ns.sum) H
theorem Aq{K:Frag}{H:Hp}:∀{vs:List V} {ds:List PyData} {bs:List Int},RpA K H vs ds→rX ds=some bs→vs=bs.map V.int
 |_,_,bs,.nil,e=>by cases e;rfl
 |_,_,bs,.cons (d:=d) h t,e=>by
  cases d <;> simp[rX]at e
  obtain⟨cs,e,rfl⟩:=e
  cases h
  rw[Aq t e]
  rfl
theorem JB{K:Frag}:DH K (JA K) BL:=fun ds d vs H Q e r=>by
 unfold BL at e
 split at e
 ·obtain⟨bs,eb,rfl⟩:=Zab.mp e
  obtain⟨v,rfl,r1⟩:=r.one
  cases r1 with
  |lst h1 h2=>
   have:=Aq h2 eb
   subst this
   exact⟨_,rfl,fun q=>⟨_,bs,rfl,h1,q⟩⟩
 ·cases e
theorem iW:∀{ns:List Int} {us:List Value},Vals (ns.map V.int) us→us.length=ns.length∧∀(i:Nat) (v:Value),us[i]? =some v→∃t,v=Value.int (ns.getD i 0) t
 |[],_,.nil=>⟨rfl,fun i v h=>by simp at h⟩
 |n::ns,_,.cons h t=>by
  obtain⟨tk,rfl⟩:=h
  obtain⟨h1,h2⟩:=iW t
  refine⟨by simp[h1],fun i v h=>?_⟩
  cases i with
  |zero=>simp at h;subst h;exact⟨tk,rfl⟩
  |succ i=>simpa using h2 i v (by simpa using h)
theorem oD(ns:List Int):∀k,k≤ns.length→preSum (fun i=>ns.getD i 0) k=(ns.take k).sum
 | 0,_=>by simp[preSum]
 |k+1,h=>by
  have hk:k < ns.length:=by omega
  rw[preSum,oD ns k (by omega),List.take_add_one,vH hk,List.sum_append]
  simp[List.getD_eq_getElem?_getD,hk]
theorem BM(hc:X.calm=true):CallR X (.builtin "sum") (JA X.K):=by
 intro pins s σ H xs us Q I r h
 obtain⟨a,ns,rfl,hq,q⟩:=h
 cases r with
 |cons r rr=>
  cases rr
  cases r
  obtain⟨its,rv,pl,hz⟩:=I.list hq
  obtain⟨hl,hv⟩:=iW rv
  obtain⟨o,n,eo,_⟩:=id pl
  have hlt:a < s.heap.objs.size:=fP eo
  refine call_sum_walkG (wpAny_pyIter_list pl.isList ?_)
  refine⟨s.heap.objs.size,_,_,_,_,_,fun i=>ns.getD i 0,rfl,Walks.list (A:=X.A.in1) (I.ok.hd hc) s.heap.objs.size a (gS hlt) its.toArray,?_,?_,?_,?_⟩
  ·exact⟨⟨_,mf _ rfl,rfl,rfl⟩,pl.isList.at fun o e=>gD _ e⟩
  ·intro b hb
   have hsz:∀o,(s.heap.push o).objs.size=s.heap.objs.size+1:=fun o=>by simp[Heap.push]
   show b < (s.heap.push _).objs.size
   rw[hsz]
   rcases Zag.mp hb with rfl |hb
   ·exact zzC _
   ·have:b=a:=by simpa using hb
    subst this
    exact xJ hlt
  ·intro i v h
   exact hv i v (by simpa using h)
  ·intro h' tk t' hk
   refine⟨.int _,H,I.kept (t':=tk) fun b o e=>hk b o (fun z=>?_) (gD _ e),⟨t',rfl⟩,?_⟩
   ·have:b=s.heap.objs.size:=by simpa using z
    exact Nat.lt_irrefl _ (this▸fP e)
   ·rw[show its.toArray.size=ns.length by simpa using hl,oD ns _ (fz _),List.take_length]
    exact q
theorem JC(hc:X.calm=true) (hg:Gl X "sum") (hm:X.mg "sum"=none) (ha:AX X [e] m1 g) (he:starEach [e] X.env=[(false,eval e X.env)]:=by rfl):EX X (.Call (.Name "sum" p) [e] [] pos) m1 (cb BL g):=mj (r:=JA X.K) JB (BM hc) hg hm PyProof.Rows.boot_sum ha (by decide) (by decide) he rfl
end
end PL
namespace PL
open PySem L2 Nh
def tN(a b:Str):Bool:=decide (a.cps.toList≤b.cps.toList)
def iE(ss:List Str):List Str:=ss.mergeSort tN
theorem i3(a b c:Str)(h:tN a b=true)(k:tN b c=true):tN a c=true:=zz4 (List.le_trans (zz5 h) (zz5 k))
theorem kM(a b:Str):(tN a b||tN b a)=true:=by
 rcases List.le_total a.cps.toList b.cps.toList with h |h
 ·simp[tN,h]
 ·simp[tN,h]
theorem mr{a b:Str}(h:tN a b=true)(k:tN b a=true):a=b:=by
 have e:=List.le_antisymm (zz5 h) (zz5 k)
 cases a;cases b
 simp only at e
 rw[Array.toList_inj.mp e]
theorem rY:∀(p:Str) (l:List Str),PyProof.Rows.risingS p l=true→(p::l).Pairwise (fun a b=>tN a b=true)
 |p,[],_=>by simp
 |p,x::r,h=>by
  have h':(!PySem.Spec.ltCps x.cps.toList p.cps.toList&&PyProof.Rows.risingS x r)=true:=h
  rw[rC,PyProof.Rows.ltCps_eq]at h'
  have ih:=rY x r h'.2
  have hpx:tN p x=true:=by
   have:=h'.1
   simp only[Bool.not_eq_true',decide_eq_false_iff_not]at this
   exact zz4 this
  refine List.pairwise_cons.mpr ⟨fun y hy=>?_,ih⟩
  rcases Zag.mp hy with rfl |hy
  ·exact hpx
  ·exact i3 p x y hpx ((List.pairwise_cons.mp ih).1 y hy)
theorem BN:∀l:List Str,PyProof.Rows.sortedS l=true→l.Pairwise (fun a b=>tN a b=true)
 |[],_=>List.Pairwise.nil
 |x::r,h=>rY x r h
theorem pS{a b:List Str}(p:a.Perm b)(h:PyProof.Rows.sortedS a=true):a=iE b:=
 List.Perm.eq_of_pairwise (fun _ _ _ _ h k=>mr h k) (BN a h) (List.pairwise_mergeSort i3 kM b) (p.trans (xP b tN).symm)
theorem nz(ss:List Str):(iE ss).length=ss.length:=(xP ss tN).length_eq
section
variable {X:Cx} {e:Expr} {m1:Bool} {f:ba} {p pos:Pos}
theorem pT:∀{ss:List Str} {us:List Value},Vals (ss.map V.str) us→PyProof.Rows.StrsAre us ss
 |[],_,.nil=>.nil
 |s::ss,_,.cons h t=>by obtain⟨tk,rfl⟩:=h;exact .cons _ _ (pT t)
theorem pU:∀{ss:List Str} {us:List Value},PyProof.Rows.StrsAre us ss→Vals (ss.map V.str) us
 |[],_,.nil=>.nil
 |_::_,_,.cons y t h=>.cons ⟨t,rfl⟩ (pU h)
theorem tO:CallR X (.builtin "sorted") (fun xs H Q=>∃(p:Addr) (ss:List Str),xs=[.ref p]∧SqL X.K H p (ss.map V.str)∧ss.length < 64∧∀l,H l=none→Q (.ref l) (upd H l (.lst ((iE ss).map V.str)))):=by
 intro pins s σ H xs us Q I r h
 obtain⟨p,ss,rfl,hq,h64,q⟩:=h
 cases r with
 |cons r rr=>
  cases rr
  cases r
  obtain⟨its,rv,pl,hz⟩:=I.list hq
  have hS:=pT rv
  have hl:its.length=ss.length:=by have:=rv.length;simpa using this.symm
  refine PyProof.Rows.sorted_strs pl.isList hS (by omega) fun out ss' a1 a2 a3=>?_
  have:=pS a2 a3
  subst this
  obtain⟨e,he⟩:=PyProof.Rows.sortedAll_at s.heap its out
  refine⟨.ref (s.heap.objs.size+1),_,I.laid (t':=s.toks) (fun b o=>PyProof.Rows.sortedAll_old) (Nat.le_succ _) (show ObjOk X.prog X.w _ _ _ (.lst ((iE ss).map V.str))from⟨?_,out.toList,e,pU a1,he⟩),rfl,q _ (I.hok.fresh (Nat.le_succ _))⟩
  rw[eM,nz]
  exact gX (by omega)
def j4:List PyData→Option (List Str)
 |[]=>some []
 |.str x::ds=>(j4 ds).map (x:: ·)
 |_=>none
theorem pf{K:Frag}{H:Hp}:∀{vs:List V} {ds:List PyData} {bs:List Str},RpA K H vs ds→j4 ds=some bs→vs=bs.map V.str
 |_,_,bs,.nil,e=>by cases e;rfl
 |_,_,bs,.cons (d:=d) h t,e=>by
  cases d <;> simp[j4]at e
  obtain⟨cs,e,rfl⟩:=e
  cases h
  rw[pf t e]
  rfl
theorem j5{K:Frag}{H:Hp}:∀ss:List Str,RpA K H (ss.map V.str) (ss.map PyData.str)
 |[]=>.nil
 |s::ss=>.cons (.str s) (j5 ss)
def fZ(g:ba):ba:=fun E=>(g E).bind fun a=>match look a.2 a.1 with
 |some (.list ds)=>(j4 ds).bind fun ss=>if ss.length < 64 then some (.ow ((iE ss).map .str),a.2)else none
 |_=>none
theorem nD(hg:Gl X "sorted") (hm:X.mg "sorted"=none) (ha:EX X e m1 f) (he:starEach [e] X.env=[(false,eval e X.env)]:=by rfl):EX X (.Call (.Name "sorted" p) [e] [] pos) m1 (fZ f):=by
 refine bA (jU tO hg hm PyProof.Rows.boot_sorted (bU ha d0 he) (by decide) (by decide) he rfl) fun σ H Q z=>?_
 obtain⟨B,E,xs,Xs,res,E',fr,cl,e,q⟩:=z
 obtain⟨⟨s,E1⟩,e1,e⟩:=Za.mp e
 refine⟨B,E,xs,Xs,s,E1,fr,cl,e1,fun v1 H1 ⟨F,A,fr1⟩=>?_⟩
 obtain⟨A',fr2⟩:=fr1.pop
 simp only at e
 split at e
 ·rename_i ds ld
  obtain⟨ss,es,e⟩:=Za.mp e
  split at e
  ·rename_i hc
   cases e
   have r:=(fr1.look0 ld).1
   cases r with
   |lst h1 h2=>
    have:=pf h2 es
    subst this
    exact⟨_,ss,rfl,h1,hc,fun l hl=>q _ _ ⟨F,_,fr2.newl (j5 _) hl⟩⟩
  ·cases e
 ·cases e
end
end PL
namespace PL
open PySem L2 Nh
def FH(ks:List Str)(x:Str):List Str:=if x∈ks then ks else ks++[x]
def j6(ss:List Str):List Str:=ss.foldl FH []
def mw(x:Str):List Str:=x.cps.toList.map fun c=>⟨#[c]⟩
def j7(g:ba):ba:=fun E=>(g E).bind fun a=>match look a.2 a.1 with
 |some (.list ds)=>(j4 ds).bind fun ss=>if ss.length < 4000∧(j6 ss).length < 64 then some (.ow ((iE (j6 ss)).map .str),a.2)else none
 |some (.str x)=>if (mw x).length < 4000∧(j6 (mw x)).length < 64 then some (.ow ((iE (j6 (mw x))).map .str),a.2)else none
 |_=>none
end PL
namespace NhSet
open PySem PyProof.Rows
structure SS (w:World) (b:Bool) (ks:List Str) (es:Array (Int×Value)) (t:SetTable):Prop where
 perm:(es.toList.map (fun e=>strOf e.2)).Perm ks
 elems:∀e∈es.toList,∃x tk,e=(hashStr w x,Value.str x tk)
 bound:es.size < scanBound
 fits:t.fits es.size=true
 led:t.led=b
 plain:es.size≠0→t.plain=false
abbrev cW(es:Array (Int×Value))(ep:Nat)(t:SetTable):Obj:={cls:=.type "set",dict:=none,data:=.set es ep t}
def StrSet(w:World)(h:Heap)(a:Addr)(b:Bool)(ks:List Str):Prop:=∃es ep t,h.get? a=some (cW es ep t)∧SS w b ks es t
theorem StrSet.at'{w:World}{b:Bool}(S:StrSet w h a b ks)(e:∀o,h.get? a=some o→h'.get? a=some o):StrSet w h' a b ks:=
 let ⟨es,ep,t,ho,r⟩:=S;⟨es,ep,t,e _ ho,r⟩
theorem StrSet.obj{w:World}{b:Bool}(S:StrSet w h a b ks):∃o,h.get? a=some o:=let ⟨_,_,_,ho,_⟩:=S;⟨_,ho⟩
theorem SS.elemsOf{prog:Program}{w:World}{b:Bool}{t:SetTable}(S:SS w b ks es t):ElemsOf (strKind prog w) es.toList:=fun e he=>by
 obtain⟨x,tk,rfl⟩:=S.elems e he
 exact⟨⟨x,by simp[PySem.strKind,Value.isStrOf],rfl⟩,rfl⟩
theorem SS.len{w:World}{b:Bool}{t:SetTable}(S:SS w b ks es t):es.size=ks.length:=by
 have:=S.perm.length_eq;simpa using this
theorem SS.mem{w:World}{b:Bool}{t:SetTable}(S:SS w b ks es t)(x:Str):x∈ks↔∃e∈es.toList,Value.isStrOf x e.2=true:=by
 rw[←S.perm.mem_iff,Zbf]
 constructor
 ·rintro⟨e,he,rfl⟩
  obtain⟨y,tk,rfl⟩:=S.elems e he
  exact⟨_,he,by simp[Value.isStrOf,strOf]⟩
 ·rintro⟨e,he,hx⟩
  obtain⟨y,tk,rfl⟩:=S.elems e he
  have:y=x:=by simpa[Value.isStrOf]using hx
  exact⟨_,he,by simp[strOf,this]⟩
theorem SetTable.orStandIn_led(t:SetTable)(n:Nat):(t.orStandIn n).led=t.led:=by
 unfold SetTable.orStandIn;split <;> rfl
theorem yE(t:SetTable)(es:Array (Int×Value))(h:Int)(x:Value):(layNew t es h x).2.1.led=t.led:=by
 unfold layNew
 split
 ·exact SetTable.orStandIn_led _ _
 ·rfl
theorem yF{mask finger moves:Nat}{led plain:Bool}{hashes:Array Int}{t':SetTable}{order:Array Nat}(h:SetTable.laid mask finger moves led plain hashes=some (t',order)):t'.led=led∧t'.plain=plain:=by
 unfold SetTable.laid at h
 cases hc:SetTable.layClean mask hashes with
 |none=>rw[hc]at h;simp at h
 |some ow=>rw[hc]at h;simp at h;rw[←h.1];exact⟨rfl,rfl⟩
theorem pV(t:SetTable)(es:Array (Int×Value))(wanted:Nat)(hp:t.plain=false):(relayAll t es wanted).2.1.led=t.led∧(relayAll t es wanted).2.1.plain=false:=by
 unfold relayAll
 split
 ·rename_i t' order hr
  dsimp only
  split
  ·have:=yF hr
   exact⟨this.1,this.2.trans hp⟩
  ·exact⟨rfl,rfl⟩
 ·exact⟨rfl,rfl⟩
section
variable {prog:Program} {w:World} {A:Around} {E:Value→Shared→Prop} {s:Shared}
theorem qS(es es':Array (Int×Value))(ep:Nat)(t t':SetTable):Obj.putSet es' t' (cW es ep t)=cW es' (ep+1) t':=rfl
theorem wc{es':Array (Int×Value)}{t t':SetTable}(ho:h.get? a=some (cW es ep t)):(h.update a (Obj.putSet es' t')).get? a=some (cW es' (ep+1) t'):=
 Heap.get?_update_self (Obj.putSet es' t') ho (by rw[qS];rfl)
theorem Ar{g:Bool→Sem Unit}(hg:∀(b:Bool) (s₁:Shared) (Q':Unit→Shared→Prop),Q' () s₁→wpAny (model prog w) A (g b) Q' E s₁)
     {t:SetTable} (ho:s.heap.get? a=some (cW es ep t))
  {es1:Array (Int×Value)} {t2:SetTable} {b:Bool}  (S:SS w b ks es1 t2) (hp:t2.plain=false) {wasDummy:Bool} {R:Option Bool→Shared→Prop}
  (h:∀h',Heap.SameBut a s.heap h'→StrSet w h' a b ks→R (some true) {s with heap:=h'}):
  wpAny (model prog w) A (do
    storeSet a es1 t2
    if (!wasDummy&&t2.tooFull)=true then do
      g (relayAll t2 es1 (SetTable.grown es1.size)).2.2
      storeSet a (relayAll t2 es1 (SetTable.grown es1.size)).1 (relayAll t2 es1 (SetTable.grown es1.size)).2.1
      pure (some true)
     else pure (some true)) R E s:=by
 refine zz0 (wpAny_storeSet_of ho rfl ?_ (fits_of_scanBound S.bound))
 have ho1:=wc (es':=es1) (t':=t2) ho
 have hsb1:=Heap.SameBut.update s.heap a (Obj.putSet es1 t2)
 split
 ·have hpm:=relayAll_perm t2 es1 (SetTable.grown es1.size)
  have hfr:=relayAll_fits t2 es1 (SetTable.grown es1.size)
  have hmk:=pV t2 es1 (SetTable.grown es1.size) hp
  generalize hRl:relayAll t2 es1 (SetTable.grown es1.size)=Rl at hpm hfr hmk ⊢
  obtain⟨es2,t3,gave2⟩:=Rl
  dsimp only at hpm hfr hmk ⊢
  have hsz:es2.size=es1.size:=by rw[←xI,hpm.length_eq,xI]
  have hb2:es2.size < scanBound:=by rw[hsz];exact S.bound
  have S2:SS w b ks es2 t3:=⟨(hpm.map _).trans S.perm,fun e he=>S.elems e (hpm.mem_iff.mp he),hb2,hfr,hmk.1.trans S.led,fun _=>hmk.2⟩
  refine zz0 (hg _ _ _ ?_)
  refine zz0 (wpAny_storeSet_of ho1 rfl ?_ (fits_of_scanBound hb2))
  exact zz1 (h _ (hsb1.trans (Heap.SameBut.update _ a _)) ⟨es2,_,t3,wc ho1,S2⟩)
 ·exact zz1 (h _ hsb1 ⟨es1,_,t2,ho1,S⟩)
def oY(ks:List Str)(x:Str):List Str:=if x∈ks then ks else ks++[x]
theorem nH{b:Bool}{Q:Bool→Shared→Prop}(hS:StrSet w s.heap a b ks)(hroom:ks.length+1 < scanBound)
  (h:∀(r:Bool) h',Heap.SameBut a s.heap h'→StrSet w h' a b (oY ks x)→Q r {s with heap:=h'}):
  wpAny (model prog w) A (setAddHashed a (.str x tk) (hashStr w x)) Q E s:=by
 obtain⟨es,ep,t,ho,S⟩:=hS
 have hb1:es.size+1 < scanBound:=by rw[S.len];exact hroom
 have hel:=S.elemsOf (prog:=prog)
 have hkey:(strKind prog w).is x (.str x tk)=true:=by simp[PySem.strKind,Value.isStrOf]
 unfold setAddHashed setAddHashedIn
 refine zz7 (zz0 (wpAny_setState_of ho rfl S.fits ?_))
 dsimp only
 rw[byScan_of (knd:=strKind prog w) (x:=.str x tk) rfl S.bound hel]
 simp only[↓reduceIte]
 unfold setAddByScan
 refine zz0 ?_
 refine zz0 (wpAny_rule ?_)
 refine zz0 (wpAny_setScan_of (knd:=strKind prog w) hkey ho rfl S.fits hel ?_)
 cases hr:List.findIdx? (fun e=>(strKind prog w).is x e.2) es.toList with
 |some j=>
  dsimp only
  obtain⟨hj,hpj,_⟩:=List.findIdx?_eq_some_iff_getElem.mp hr
  have hk:x∈ks:=(S.mem x).mpr ⟨es.toList[j],List.getElem_mem hj,hpj⟩
  refine zz1 (zz1 ?_)
  have e:s={s with heap:=s.heap}:=by cases s;rfl
  rw[e]
  exact h _ s.heap (Heap.SameBut.refl a s.heap) (by rw[oY,if_pos hk];exact⟨es,ep,t,ho,S⟩)
 |none=>
  dsimp only
  have hk:x∉ks:=fun hk=>by
   obtain⟨e,he,hp⟩:=(S.mem x).mp hk
   have:=List.findIdx?_eq_none_iff.mp hr e he
   rw[show(strKind prog w).is x e.2=true from hp]at this;exact Bool.noConfusion this
  have hgw:∀(b:Bool) {s₁:Shared} {Q':Unit→Shared→Prop},Q' () s₁→wpAny (model prog w) A (match b with |true=>rule "set.scan.the-table-gave-way" |false=>pure ()) Q' E s₁:=
   fun b s₁ Q' hq=>by cases b <;> first |exact zz1 hq |exact wpAny_rule hq
  have hperm:=layNew_perm t es (hashStr w x) (.str x tk)
  have hfits:=layNew_fits t es (hashStr w x) (.str x tk)
  have hled:=yE t es (hashStr w x) (.str x tk)
  generalize hL:layNew t es (hashStr w x) (.str x tk)=L at hperm hfits hled ⊢
  obtain⟨es1,t1,wasDummy,gave⟩:=L
  dsimp only at hperm hfits hled ⊢
  rw[Array.toList_push]at hperm
  have hb1':es1.size < scanBound:=by rw[←xI,hperm.length_eq,pA,xI];simpa using hb1
  have hpm:(es1.toList.map (fun e=>strOf e.2)).Perm (ks++[x]):=(hperm.map _).trans (by rw[List.map_append];exact S.perm.append_right _)
  have hel1:∀e∈es1.toList,∃x tk,e=(hashStr w x,Value.str x tk):=fun e he=>by
   rcases Zah.mp (hperm.mem_iff.mp he)with z |z
   ·exact S.elems e z
   ·exact⟨x,tk,Zaf.mp z⟩
  refine zz0 (hgw _ ?_)
  split
  ·refine zz0 ?_
   rw[hashByValue_scannable 8 (x:=.str x tk) rfl]
   refine zz1 ?_
   simp only[plainKind,Bool.false_eq_true,↓reduceIte]
   refine Ar ?_ ho (t2:={t1 with plain:=false}) (ks:=oY ks x) (b:=b) ⟨by rw[oY,if_neg hk];exact hpm,hel1,hb1',SetTable.fits_plain_off hfits,hled.trans S.led,fun _=>rfl⟩ rfl ?_
   ·intro b s₁ Q' hq;cases b <;> first |exact zz1 hq |exact wpAny_rule hq
   ·intro h' hsb hS';dsimp only;exact zz1 (h _ h' hsb hS')
  ·rename_i hpl
   refine zz0 (zz1 ?_)
   simp only[↓reduceIte]
   have hpl':t1.plain=false:=by simpa using hpl
   refine Ar ?_ ho (ks:=oY ks x) (b:=b) ⟨by rw[oY,if_neg hk];exact hpm,hel1,hb1',hfits,hled.trans S.led,fun _=>hpl'⟩ hpl' ?_
   ·intro b s₁ Q' hq;cases b <;> first |exact zz1 hq |exact wpAny_rule hq
   ·intro h' hsb hS';dsimp only;exact zz1 (h _ h' hsb hS')
end
def lD(val:Nat→Str)(i:Nat):List Str:=((List.range i).map val).foldl oY []
theorem rZ(val:Nat→Str)(i:Nat):lD val (i+1)=oY (lD val i) (val i):=by
 unfold lD;rw[List.range_succ,List.map_append,List.foldl_append];rfl
theorem D0(ks:List Str)(x:Str):(oY ks x).length≤ks.length+1:=by
 unfold oY;split
 ·omega
 ·simp
theorem wd(val:Nat→Str):∀i,(lD val i).length≤i
 | 0=>fz _
 |i+1=>by rw[rZ];have:=wd val i;have:=D0 (lD val i) (val i);omega
section
variable {prog:Program} {w:World} {A:Around} {R:Result→Shared→Prop} {I:Addr} {fp wr:List Addr} {G:Array GenState→Array GenState→Prop} {n:Nat} {P:Nat→Value→Prop} {St:Nat→Shared→Prop}
theorem oE(W:WalksS prog w A.in1 I fp wr G n P St)(S:Addr)(hSf:S∉fp)(b:Bool)
  (val:Nat→Str) (hval:∀i v,P i v→∃t,v=.str (val i) t) (hb:n+1 < scanBound):
  ∀(k i:Nat) (s:Shared),n - i=k→i≤n→St i s→StrSet w s.heap S b (lD val i)→
   (∀s',Moved (S::wr) G s s'→StrSet w s'.heap S b (lD val n)→R (.ok (.ret .none)) s')→
   codeAny (model prog w) A (.builtin "set.update.loop" ⟨[.ref S,.ref I],[]⟩) R s:=by
 have hSw:S∉wr:=fun h=>hSf (W.sub _ h)
 have hsub:∀b∈wr,b∈S::wr:=fun b hb=>gQ _ hb
 intro k
 induction k with
 |zero=>
  intro i s hk hi hst hS hR
  have hin:i=n:=by omega
  subst hin
  refine codeAny_builtin PyProof.Rows.F.entry_set_update_loop ?_
  rw[Around.under_plainId PyProof.Rows.F.plain_set_update_loop _]
  show wpAny _ A.in1 (pyNext (.ref I) >>= _) _ _ s
  refine zz0 (W.done s _ _ hst fun s' hm=>?_)
  show wpAny _ A.in1 (ret Value.none) _ _ s'
  exact zz1 (hR s' (hm.mono hsub) (hS.at' fun o e=>hm.heap S o hSw e))
 |succ k ih=>
  intro i s hk hi hst hS hR
  have hlt:i < n:=by omega
  refine codeAny_builtin PyProof.Rows.F.entry_set_update_loop ?_
  rw[Around.under_plainId PyProof.Rows.F.plain_set_update_loop _]
  show wpAny _ A.in1 (pyNext (.ref I) >>= _) _ _ s
  refine zz0 (W.item i s _ _ hlt hst fun v s' hP hst' hm=>?_)
  obtain⟨t,rfl⟩:=hval i v hP
  have hS':StrSet w s'.heap S b (lD val i):=hS.at' fun o e=>hm.heap S o hSw e
  show wpAny _ A.in1 (holding [Value.str (val i) t] (setAdd S (.str (val i) t)) >>= _) _ _ s'
  refine zz0 (zz7 ?_)
  unfold setAdd
  refine zz7 ?_
  refine zz0 (wpAny_pyHash_str ?_)
  have hroom:(lD val i).length+1 < scanBound:=by have:=wd val i;omega
  refine nH (s:={s' with toks:=s'.toks+1}) hS' hroom fun r h' hsb hS2=>?_
  refine zz1 ⟨plainId_quiet PyProof.Rows.F.plain_set_update_loop _,ih (i+1) _ (by omega) hlt (W.frame _ s' _ _ hst' (Nat.le_succ _) fun b hb o e=>?_) (by rw[rZ];exact hS2) fun s'' hm'' hS''=>?_⟩
  ·rw[hsb.2 b (fun h:b=S=>hSf (by rw[←h];exact hb))];exact e
  ·refine hR s'' (Moved.trans W.gtrans ((hm.mono hsub).then_heap (Nat.le_succ _) fun b o hb e=>?_) hm'') hS''
   rw[hsb.2 b (fun h:b=S=>hb (by rw[h];exact gE))];exact e
end
theorem mz(w:World)(led:Bool):SS w led [] #[] (.fresh 0 0 led):=⟨by simp,fun e he=>by simp at he,by decide,by rfl,rfl,fun h=>absurd rfl h⟩
def k9(w:World):Bool:= !w.params.followText "set-order"
section
variable {prog:Program} {w:World} {A:Around} {E:Value→Shared→Prop} {s:Shared}
theorem we(a:Value){Q₁:Value→Shared→Prop}
  (h:Q₁ (.ref s.heap.objs.size) {s with heap:=s.heap.push (cW #[] 0 (.fresh 0 0 (k9 w)))}):
  codeAny (model prog w) A (.call (.builtin "set.__new__") ⟨[.type "set",a],[]⟩) (wants Q₁ E) s:=by
 refine codeAny_of_tree ?_
 show wpAny _ A.in1 (do checkBuiltinCall "set.__new__" ⟨[.type "set",a],[]⟩;again (.builtin "set.__new__" ⟨[.type "set",a],[]⟩)) _ _ s
 refine zz0 (wpAny_of_eq (PySem.F.newCall_set_1 a) (zz1 ⟨plainId_quiet PySem.F.plain_set_new _,codeAny_builtin PySem.F.entry_set_new ?_⟩))
 rw[Around.under_plainId PySem.F.plain_set_new _]
 unfold Builtin.«set.__new__» Builtin.Frozenset.newClass
 have hsub:=sub_set_self
 obtain⟨hp,g,d,tk,os⟩:=s
 dsimp only
 wp_walk
 refine wpAny_askSetting (zz1 ?_)
 dsimp only
 simp only[newObj]
 refine zz0 (wpAny_alloc (zz1 ?_))
 exact zz1 h
end
end NhSet
namespace NhSet
open PySem PyProof.Rows
namespace F
theorem wf:isSubtype (.type "str") (.type "set")=pure false:=by rw[isSubtype_type];kernel_rfl
theorem mB:isSubtype (.type "str") (.type "frozenset")=pure false:=by rw[isSubtype_type];kernel_rfl
end F
section
variable {prog:Program} {w:World} {A:Around} {E:Value→Shared→Prop} {s:Shared}
theorem As:∀{vs:List Value} {ns:List Str},StrsAre vs ns→∀(i:Nat) (v:Value),vs[i]? =some v→∃t,v=.str (ns.getD i ⟨#[]⟩) t
 |_,_,.nil,i,v,h=>by simp at h
 |_,_,.cons n t hr,0,v,h=>by simp at h;exact⟨t,by rw[←h];rfl⟩
 |_,_,.cons n t hr,i+1,v,h=>by
  simp only[Z3]at h
  obtain⟨t',e⟩:=As hr i v h
  exact⟨t',by rw[e];rfl⟩
set_option maxHeartbeats 4000000 in
theorem BO{l:Addr}{items:Array Value}{ns:List Str}
  (hh:A.handled=none) (hl:s.heap.IsList l items) (hi:StrsAre items.toList ns) (hb:items.size+1 < scanBound)
  (h:∀(h':Heap) (tk:Nat),StrSet w h' s.heap.objs.size (k9 w) (lD (fun i=>ns.getD i ⟨#[]⟩) items.size)→
   (∀b o,b < s.heap.objs.size→s.heap.get? b=some o→h'.get? b=some o)→Q (.ref s.heap.objs.size) {s with heap:=h',toks:=tk}):
  wpAny (model prog w) A (call (.type "set") [.ref l]) Q E s:=by
 obtain⟨c,tl,hmro⟩:=PySem.F.called_set.mro
 have hmade:=PySem.F.called_set.made
 have hsub:=PySem.F.called_set.sub
 refine wpAny_call (codeAny_of_tree ?_)
 show wpAny _ _ (callAny (.type "set") _) _ _ _
 refine zz1 ⟨Code.quiet_builtin _ (by decide+kernel),codeAny_builtin PySem.F.entry_type_call ?_⟩
 rw[Around.under_plain (weight_type_call_type "set" [.ref l] []) rfl]
 have h1:=PySem.F.called_set.notType
 have h2:=PySem.F.called_set.canCreate
 have hct:=PySem.F.typeCall_set_1 (.ref l)
 repeat (any_goals (first |assumption |wp_step))
 generalize hled:k9 w=led at h
 refine codeAny_mono (we (w:=w) (.ref l) (E:=E) (Q₁:=fun obj s₁=>obj=.ref s.heap.objs.size∧s₁={s with heap:=s.heap.push {cls:=.type "set",dict:=none,data:=.set #[] 0 (.fresh 0 0 led)}}) (by rw[hled];exact⟨rfl,rfl⟩)) fun r s₁ hr=>?_
 cases r with
 |error e=>exact hr
 |ok fl=>
  cases fl with
  |ret obj=>
   obtain⟨rfl,rfl⟩:=hr
   have hS:(s.heap.push {cls:=.type "set",dict:=none,data:=.set #[] 0 (.fresh 0 0 led)}).get? s.heap.objs.size=some {cls:=.type "set",dict:=none,data:=.set #[] 0 (.fresh 0 0 led)}:=mf _ rfl
   have hT:Shared.TypeIs {s with heap:=s.heap.push {cls:=.type "set",dict:=none,data:=.set #[] 0 (.fresh 0 0 led)}} (.ref s.heap.objs.size) "set":=⟨_,hS,rfl⟩
   have hli:=PySem.F.called_set.init.lookup
   have hbi:=PySem.F.called_set.init.bind (.ref s.heap.objs.size)
   repeat (any_goals (first |assumption |wp_step))
   refine codeAny_mono (codeAny_call_builtin (R:=wants (fun r s₂=>r=.none∧∃h' tk,s₂={s with heap:=h',toks:=tk}∧
     StrSet w h' s.heap.objs.size led (lD (fun i=>ns.getD i ⟨#[]⟩) items.size)∧
     (∀b o,b < s.heap.objs.size→s.heap.get? b=some o→h'.get? b=some o)) E) PySem.F.called_set.init.plain PySem.F.entry_set_init (check_set_init_1 hT ?_)) fun r₂ s₂ hr₂=>?_
   ·obtain⟨ol,hol,hcl,nl,hdl⟩:=hl
    obtain⟨ocls,odict,odata,oslots⟩:=ol
    simp only at hcl hdl
    subst hcl;subst hdl
    have hol':(s.heap.push {cls:=.type "set",dict:=none,data:=.set #[] 0 (.fresh 0 0 led)}).get? l=some {cls:=.type "list",dict:=odict,data:=.seq items nl,slots:=oslots}:=gD _ hol
    have hsls:=PySem.F.sub_list_set
    have hslf:=PySem.F.sub_list_frozenset
    have hne:(Value.type "list" == Value.type "dict")=false:=by decide
    have hl1:(s.heap.push {cls:=.type "set",dict:=none,data:=.set #[] 0 (.fresh 0 0 led)}).IsList l items:=⟨_,hol',rfl,nl,rfl⟩
    unfold Builtin.«set.__init__» noKeywords Builtin.Frozenset.updateFrom
    generalize hPI:pyIter=PI
    wp_walk
    subst hPI
    refine wpAny_pyIter_list hl1 ?_
    refine zz0 (wpAny_runValue ?_)
    have hlS:l < s.heap.objs.size:=fP hol
    have hh3:A.in1.in1.in1.handled=none:=by simp[hh]
    have hneI:l≠(s.heap.push {cls:=.type "set",dict:=none,data:=.set #[] 0 (.fresh 0 0 led)}).objs.size:=by
     rw[zzD];exact gS (xJ hlS)
    have hSf:s.heap.objs.size∉[(s.heap.push {cls:=.type "set",dict:=none,data:=.set #[] 0 (.fresh 0 0 led)}).objs.size,l]:=by
     rw[zzD];simp only[Zag,Zaf,List.not_mem_nil,or_false,not_or]
     exact⟨gS (zzC _),Nat.ne_of_gt hlS⟩
    have hval:∀(i:Nat) (v:Value),items[i]? =some v→∃t,v=.str ((fun i=>ns.getD i ⟨#[]⟩) i) t:=fun i v hv=>
     As hi i v (by rw[Array.getElem?_toList];exact hv)
    refine oE ((Walks.list hh3 _ l hneI items).toS) s.heap.objs.size
     hSf led (fun i=>ns.getD i ⟨#[]⟩) hval hb (items.size - 0) 0 _ (by omega) (zz9 _)
     ⟨⟨_,mf _ rfl,rfl,rfl⟩,(hl1.push _)⟩ ?hS0 ?hR
    case hS0=>
     have hget:((s.heap.push {cls:=.type "set",dict:=none,data:=.set #[] 0 (.fresh 0 0 led)}).push {cls:=.type "list_iterator",data:=.fields #[.ref l,.int 0 0]}).get? s.heap.objs.size
       =some {cls:=.type "set",dict:=none,data:=.set #[] 0 (.fresh 0 0 led)}:=gD _ hS
     exact⟨_,_,_,hget,mz w led⟩
    case hR=>
     intro s' hm hS'
     obtain⟨h',g',d',tk',os'⟩:=s'
     have eg:g'=s.gens:=hm.gens
     have ed:d'=s.drawn:=hm.drawn
     have eo:os'=s.os:=hm.os
     subst eg;subst ed;subst eo
     show wpAny _ _ _ _ _ _
     refine zz1 ?_
     show wpAny _ _ (ret Value.none) _ _ _
     refine zz1 ⟨rfl,h',tk',rfl,hS',fun b o hb e=>?_⟩
     have hb1:b≠s.heap.objs.size:=gS hb
     have hb2:b≠(s.heap.push {cls:=.type "set",dict:=none,data:=.set #[] 0 (.fresh 0 0 led)}).objs.size:=by
      rw[zzD];exact gS (xJ hb)
     exact hm.heap b o (by simp only[Zag,Zaf,List.not_mem_nil,or_false,not_or];exact⟨hb1,hb2⟩) (gD _ (gD _ e))
   ·cases r₂ with
    |error e=>exact hr₂
    |ok fl₂=>
     cases fl₂ with
     |ret r=>
      obtain⟨rfl,h',tk,rfl,hS',hk'⟩:=hr₂
      repeat (any_goals (first |assumption |wp_step))
      exact h _ _ hS' hk'
     |_=>exact hr₂.elim
  |_=>exact hr.elim
def jj(x:Str)(i:Nat):Str:=⟨#[x.cps.getD i 0]⟩
set_option maxHeartbeats 4000000 in
theorem D1{t:Tok}
  (hh:A.handled=none) (hb:x.cps.size+1 < scanBound)
  (h:∀(h':Heap) (tk:Nat),StrSet w h' s.heap.objs.size (k9 w) (lD (jj x) x.cps.size)→
   (∀b o,b < s.heap.objs.size→s.heap.get? b=some o→h'.get? b=some o)→Q (.ref s.heap.objs.size) {s with heap:=h',toks:=tk}):
  wpAny (model prog w) A (call (.type "set") [.str x t]) Q E s:=by
 obtain⟨c,tl,hmro⟩:=PySem.F.called_set.mro
 have hmade:=PySem.F.called_set.made
 have hsub:=PySem.F.called_set.sub
 refine wpAny_call (codeAny_of_tree ?_)
 show wpAny _ _ (callAny (.type "set") _) _ _ _
 refine zz1 ⟨Code.quiet_builtin _ (by decide+kernel),codeAny_builtin PySem.F.entry_type_call ?_⟩
 rw[Around.under_plain (weight_type_call_type "set" [.str x t] []) rfl]
 have h1:=PySem.F.called_set.notType
 have h2:=PySem.F.called_set.canCreate
 have hct:=PySem.F.typeCall_set_1 (.str x t)
 repeat (any_goals (first |assumption |wp_step))
 generalize hled:k9 w=led at h
 refine codeAny_mono (we (w:=w) (.str x t) (E:=E) (Q₁:=fun obj s₁=>obj=.ref s.heap.objs.size∧s₁={s with heap:=s.heap.push {cls:=.type "set",dict:=none,data:=.set #[] 0 (.fresh 0 0 led)}}) (by rw[hled];exact⟨rfl,rfl⟩)) fun r s₁ hr=>?_
 cases r with
 |error e=>exact hr
 |ok fl=>
  cases fl with
  |ret obj=>
   obtain⟨rfl,rfl⟩:=hr
   have hS:(s.heap.push {cls:=.type "set",dict:=none,data:=.set #[] 0 (.fresh 0 0 led)}).get? s.heap.objs.size=some {cls:=.type "set",dict:=none,data:=.set #[] 0 (.fresh 0 0 led)}:=mf _ rfl
   have hT:Shared.TypeIs {s with heap:=s.heap.push {cls:=.type "set",dict:=none,data:=.set #[] 0 (.fresh 0 0 led)}} (.ref s.heap.objs.size) "set":=⟨_,hS,rfl⟩
   have hli:=PySem.F.called_set.init.lookup
   have hbi:=PySem.F.called_set.init.bind (.ref s.heap.objs.size)
   repeat (any_goals (first |assumption |wp_step))
   refine codeAny_mono (codeAny_call_builtin (R:=wants (fun r s₂=>r=.none∧∃h' tk,s₂={s with heap:=h',toks:=tk}∧
     StrSet w h' s.heap.objs.size led (lD (jj x) x.cps.size)∧
     (∀b o,b < s.heap.objs.size→s.heap.get? b=some o→h'.get? b=some o)) E) PySem.F.called_set.init.plain PySem.F.entry_set_init (check_set_init_1 hT ?_)) fun r₂ s₂ hr₂=>?_
   ·have hsls:=F.wf
    have hslf:=F.mB
    have hne:(Value.type "str" == Value.type "dict")=false:=by decide
    have hTx:Shared.TypeIs {s with heap:=s.heap.push {cls:=.type "set",dict:=none,data:=.set #[] 0 (.fresh 0 0 led)}} (.str x t) "str":=rfl
    unfold Builtin.«set.__init__» noKeywords Builtin.Frozenset.updateFrom
    generalize hPI:pyIter=PI
    wp_walk
    subst hPI
    refine wpAny_pyIter_str fun o St W hst=>?_
    refine zz0 (wpAny_runValue ?_)
    have hh3:A.in1.in1.in1.handled=none:=by simp[hh]
    have hSf:s.heap.objs.size∉[(s.heap.push {cls:=.type "set",dict:=none,data:=.set #[] 0 (.fresh 0 0 led)}).objs.size]:=by
     rw[zzD];simp only[Zag,Zaf,List.not_mem_nil,or_false,not_or]
     exact gS (zzC _)
    have hval:∀(i:Nat) (v:Value),SignAt x i v→∃t,v=.str (jj x i) t:=fun i v ⟨c,u,hc,hv⟩=>⟨u,by rw[hv];simp[jj,Array.getD_eq_getD_getElem?,hc]⟩
    refine oE ((W _ hh3).toS) s.heap.objs.size
     hSf led (jj x) hval hb (x.cps.size - 0) 0 _ (by omega) (zz9 _) hst ?hS0 ?hR
    case hS0=>exact⟨_,_,_,gD _ hS,mz w led⟩
    case hR=>
     intro s' hm hS'
     obtain⟨h',g',d',tk',os'⟩:=s'
     have eg:g'=s.gens:=hm.gens
     have ed:d'=s.drawn:=hm.drawn
     have eo:os'=s.os:=hm.os
     subst eg;subst ed;subst eo
     show wpAny _ _ _ _ _ _
     refine zz1 ?_
     show wpAny _ _ (ret Value.none) _ _ _
     refine zz1 ⟨rfl,h',tk',rfl,hS',fun b o hb e=>?_⟩
     have hb1:b≠s.heap.objs.size:=gS hb
     have hb2:b≠(s.heap.push {cls:=.type "set",dict:=none,data:=.set #[] 0 (.fresh 0 0 led)}).objs.size:=by
      rw[zzD];exact gS (xJ hb)
     exact hm.heap b o (by simp only[Zag,Zaf,List.not_mem_nil,or_false,not_or];exact⟨hb1,hb2⟩) (gD _ (gD _ e))
   ·cases r₂ with
    |error e=>exact hr₂
    |ok fl₂=>
     cases fl₂ with
     |ret r=>
      obtain⟨rfl,h',tk,rfl,hS',hk'⟩:=hr₂
      repeat (any_goals (first |assumption |wp_step))
      exact h _ _ hS' hk'
     |_=>exact hr₂.elim
  |_=>exact hr.elim
end
end NhSet
namespace NhSet
open PySem PyProof.Rows
theorem lG:∀{l:List α} {i:Nat} (h:i < l.length),(l[i]::l.eraseIdx i).Perm l
 |x::xs,0,h=>List.Perm.refl _
 |x::xs,i+1,h=>by
  have:=lG (l:=xs) (i:=i) (by simpa using h)
  simp only[List.getElem_cons_succ,List.eraseIdx_cons_succ]
  exact(List.Perm.swap x _ _).trans (this.cons x)
theorem r8(next:Nat→Nat):∀(fuel k:Nat) (left:List α) (out:Array α),left.length=fuel→(pickOrder.go next fuel k left out).toList.Perm (out.toList++left)
 | 0,k,left,out,h=>by
  have:left=[]:=List.length_eq_zero_iff.mp h
  subst this;simp[pickOrder.go]
 |fuel+1,k,left,out,h=>by
  unfold pickOrder.go
  have hlt:next k % left.length < left.length:=Nat.mod_lt _ (by omega)
  rw[vH hlt]
  dsimp only
  refine(r8 next fuel (k+1) _ _ (by rw[List.length_eraseIdx_of_lt hlt];omega)).trans ?_
  rw[Array.toList_push,oQ]
  exact(lG hlt).append_left _
theorem pW(next:Nat→Nat)(xs:Array α):(pickOrder next xs).toList.Perm xs.toList:=by
 have:=r8 next xs.size 0 xs.toList #[] (by simp)
 simpa[pickOrder]using this
section
variable {M:Model} {A:Around} {E:Value→Shared→Prop}
theorem tP{src:Source}{s:Shared}{Q:Nat→Shared→Prop}(hn:n≠0)(h:∀i d,i < n→Q i {s with drawn:=d}):wpAny M A (choose src n) Q E s:=fun Γ p hΓ=>by
 show Sem.wp M Γ (.choose src n .pure) _ _ p s
 rw[Sem.wp_choose]
 exact⟨hn,by rw[Sem.wp_pure];exact h _ _ (Nat.mod_lt _ (Nat.pos_of_ne_zero hn))⟩
theorem jJ:∀(n:Nat) (xs:List α) (s:Shared) {Q:List α→Shared→Prop},xs.length=n→(∀ys d,ys.Perm xs→Q ys {s with drawn:=d})→wpAny M A (drawOrder n xs) Q E s
 | 0,xs,s,Q,hl,h=>by
  have:xs=[]:=List.length_eq_zero_iff.mp hl
  subst this
  exact zz1 (h [] s.drawn (List.Perm.refl _))
 |n+1,[],s,Q,hl,h=>by simp at hl
 |n+1,x::xs,s,Q,hl,h=>by
  show wpAny M A (choose .order (x::xs).length >>= _) Q E s
  refine zz0 (tP (by simp) fun i d hi=>?_)
  rw[vH hi]
  dsimp only
  refine zz0 (jJ n _ _ (by rw[List.length_eraseIdx_of_lt hi];simpa using hl) fun ys d' hp=>?_)
  exact zz1 (h _ d' ((hp.cons _).trans (lG hi)))
end
namespace F
theorem pX:entryFor table "set.__iter__"=some Builtin.«frozenset.__iter__»:=
 entryFor_alias (id':="frozenset.__iter__") (by kernel_rfl) rfl (by decide+kernel) (by kernel_rfl)
theorem slot_next:Slot "set_iterator" "__next__" "set_iterator.__next__":=
 .of (owner:="set_iterator") (n:="__next__") (by rw[typeLookup_type,builtinLookup_eq_fast];kernel_rfl) (by decide+kernel) (by decide+kernel) (by decide+kernel)
  (by first |exact .inl (by decide+kernel) |exact .inr (by decide+kernel)) (by rw[isSubtype_type];kernel_rfl)
theorem yG:entryFor table "set_iterator.__next__"=some Builtin.«set_iterator.__next__»:=entryFor_of_fast (by kernel_rfl)
theorem BP(a:Value):argsOk "set_iterator.__next__" ⟨[a],[]⟩:=by unfold argsOk;kernel_rfl
theorem r_:Slot "set_iterator" "__iter__" "set_iterator.__iter__":=
 .of (owner:="set_iterator") (n:="__iter__") (by rw[typeLookup_type,builtinLookup_eq_fast];kernel_rfl) (by decide+kernel) (by decide+kernel) (by decide+kernel)
  (by first |exact .inl (by decide+kernel) |exact .inr (by decide+kernel)) (by rw[isSubtype_type];kernel_rfl)
theorem yH:entryFor table "set_iterator.__iter__"=some Builtin.«dict_keyiterator.__iter__»:=
 entryFor_alias (id':="dict_keyiterator.__iter__") (by kernel_rfl) rfl (by decide+kernel) (by kernel_rfl)
theorem BQ(a:Value):argsOk "set_iterator.__iter__" ⟨[a],[]⟩:=by unfold argsOk;kernel_rfl
end F
abbrev wg(first:Value)(i:Nat)(a:Addr)(n ep:Nat):Obj:={cls:=.type "set_iterator",data:=.fields #[first,.int i 0,.ref a,.int n 0,.int ep 0]}
section
variable {prog:Program} {w:World} {A:Around} {E:Value→Shared→Prop} {s:Shared}
theorem tQ{first:Value}{i:Nat}(ho:s.heap.get? I=some (wg first i a n ep))(h:Q (.ref I) s):wpAny (model prog w) A (pyIter (.ref I)) Q E s:=by
 have hT:s.TypeIs (.ref I) "set_iterator":=⟨_,ho,rfl⟩
 refine wpAny_pyIter_slot hT F.r_ (wpAny_call_entry F.r_ hT F.yH ?_ (F.BQ _))
 show wpAny _ _ (ret (.ref I)) _ _ s
 exact zz1 ⟨_,rfl,"set_iterator",_,hT,F.slot_next.lookup,h⟩
theorem wj{t:SetTable}{Q:Bool→Shared→Prop}(ho:s.heap.get? a=some (cW es ep t))(hf:t.fits es.size=true)
  (h:Q (!(w.params.followText "set-order")&&(!t.plain&&decide (es.size > 1))) s):wpAny (model prog w) A (setDrawn a) Q E s:=by
 unfold setDrawn setsByText
 refine zz0 (wpAny_setState_of ho rfl hf ?_)
 dsimp only
 refine zz0 (zz0 (wpAny_askSetting (zz1 ?_)))
 exact zz1 h
theorem tR{Q:Option Value→Shared→Prop}(hh:A.handled=none){o:Obj}(hQ:∀h',Heap.ExtBut I s.heap h'→Q none {s with heap:=h'}){h1:Heap}(k:Heap.ExtBut I s.heap h1):
  wpAny (model prog w) A.in1 (newExc (.type "StopIteration") [] >>= fun e=>raiseNew e) (fun(fin:Fin) s'=>∃r,fin=.done (.ret r)∧wpAny (model prog w) A (pure (some r)) Q E s')
   (fun e s'=>wpAny (model prog w) A (isInstance e (.type "StopIteration") >>= fun b=>if b=true then pure none else throw e) Q E s') {s with heap:=h1}:=by
 refine zz0 ?_
 simp only[newExc,newTuple]
 refine zz0 (wpAny_newObj_type ?_ (by size_fits))
 refine zz0 (m:=firstArgMember _ _) (wpAny_of_eq (a:=Value.none) (by first |rfl |(simp only[firstArgMember];rfl)) ?_)
 refine wpAny_newObj_type ?_ (by size_fits)
 simp only[raiseNew]
 refine zz0 (wpAny_handled ?_)
 rw[show A.in1.handled=none from hh]
 refine zz0 (zz1 (wpAny_throw ?_))
 refine zz0 (wpAny_isInstance (T:="StopIteration") (b:=true) ⟨_,mf _ rfl,rfl⟩ isSubtype_stop ?_)
 exact zz1 (hQ _ ((k.push _).push _))
end
end NhSet
namespace NhSet
open PySem PyProof.Rows
section
variable {prog:Program} {w:World} {A:Around} {E:Value→Shared→Prop} {s:Shared}
theorem fR{first:Value}{i:Nat}{Q:Option Value→Shared→Prop}(hI:s.heap.get? I=some (wg first i a n ep)){t:SetTable}(ha:s.heap.get? a=some (cW es ep t))(hf:t.fits es.size=true)(hn:es.size=n)
  (h:wpAny (model prog w) A.in1 (if let .int slot _:=first then do
    match ←setNext a slot.toNat i ep with
    |some (x,next)=>do
     setField (.ref I) 0 (rawInt next)
     setField (.ref I) 1 (rawInt (i+1))
     ret x
    |none=>do setField (.ref I) 2 .none;raiseNew (←newExc (.type "StopIteration") [])
   else do
    let some places ←seqItems? first |unsupported "internal:set_iterator"
    match places[i]? with
    |some (.int place _)=>do
     let x ←setNextDrawn a place.toNat ep
     setField (.ref I) 1 (rawInt (i+1))
     ret x
    |some _=>unsupported "internal:set_iterator"
    |none=>do setField (.ref I) 0 (rawInt 0);setField (.ref I) 2 .none;raiseNew (←newExc (.type "StopIteration") []))
   (fun(fin:Fin) s'=>∃r,fin=.done (.ret r)∧wpAny (model prog w) A (pure (some r)) Q E s')
   (fun e s'=>wpAny (model prog w) A (isInstance e (.type "StopIteration") >>= fun b=>if b=true then pure none else throw e) Q E s') s):
  wpAny (model prog w) A (pyNext (.ref I)) Q E s:=by
 have hT':s.TypeIs (.ref I) "set_iterator":=⟨_,hI,rfl⟩
 unfold pyNext
 refine zz0 (wpAny_attempt (wpAny_callSpecial?_slot (name:=Str.ofString "__next__") hT' F.slot_next (wpAny_call_entry F.slot_next hT' F.yG ?_ (F.BP _))))
 unfold Builtin.«set_iterator.__next__»
 refine zz0 (m:=slotArgs _ _ _) (zz1 ?_)
 refine zz0 (wpAny_fieldsOf hI rfl ?_)
 dsimp only
 refine zz0 (wpAny_setEntries_of ha rfl hf ?_)
 rw[if_neg (by simp[hn])]
 exact h
abbrev HU(es:Array (Int×Value))(j:Nat):Value:=(es.getD j (0,.none)).2
theorem cR{vs:Array Value}{x:Value}{Q:Unit→Shared→Prop}(ho:s.heap.get? I=some o)(hd:o.data=.fields vs)(hk:k < vs.size)(hQ:∀h',Heap.SameBut I s.heap h'→h'.get? I=some {o with data:=.fields (vs.setIfInBounds k x)}→Q () {s with heap:=h'}):wpAny (model prog w) A (setField (.ref I) k x) Q E s:=by
 refine wpAny_setField ho hd hk (hQ _ (Heap.SameBut.update ..) ?_)
 have:=Heap.get?_update_self (Obj.mapFields fun vs=>vs.setIfInBounds k x) ho (Obj.isFreed_of_fields (Obj.data_mapFields hd _))
 rw[this]
 obtain⟨c,d,dt,sl⟩:=o
 simp only at hd
 subst hd
 rfl
theorem yI(hh:A.handled=none){T:Addr}{t:SetTable}(π:List Nat)(hp:∀j∈π,j < es.size)(hl:π.length=es.size)(hf:t.fits es.size=true)(hTI:T≠I)(haI:a≠I):
  Walks prog w A I [I,T,a] [I] (π.map (HU es)).length (fun i v=>(π.map (HU es))[i]? =some v)
   (fun i h=>h.get? I=some (wg (.ref T) i a es.size ep)∧h.get? T=some {cls:=.type "tuple",data:=.seq (π.map fun(i:Nat)=>rawInt i).toArray}∧h.get? a=some (cW es ep t)) where
 sub:=fun b hb=>by simp at hb;simp[hb]
 frame:=fun _ _ _ st hk=>⟨hk I (by simp) _ st.1,hk T (by simp) _ st.2.1,hk a (by simp) _ st.2.2⟩
 self:=fun _ _ _ _ st hQ=>tQ st.1 hQ
 item:=fun i s Q E hi st hQ=>by
  obtain⟨hI,hT,ha⟩:=st
  rw[eM]at hi
  refine fR hI ha hf rfl ?_
  dsimp only
  refine zz0 (wpAny_seqItems hT rfl ?_)
  dsimp only
  have e:(π.map fun(i:Nat)=>rawInt i).toArray[i]? =some (.int (π[i]:Nat) 0):=by
   simp[hi,rawInt]
  rw[e]
  dsimp only
  have hj:=hp π[i] (List.getElem_mem hi)
  unfold setNextDrawn
  refine zz0 (zz0 (wpAny_setState_of ha rfl hf ?_))
  dsimp only
  rw[if_neg (by simp)]
  have e2:es[((π[i]:Nat):Int).toNat]? =some (es[π[i]]):=by simp[hj]
  rw[e2]
  refine zz1 ?_
  refine zz0 (cR hI rfl (by simp) fun h' hs' ho'=>?_)
  refine zz1 ⟨_,rfl,zz1 (hQ _ h' s.toks ?_ ⟨?_,?_,?_⟩ fun b o hb e=>hs'.extBut b o (fun z=>hb (by simp[z])) e)⟩
  ·simp[hi,HU,hj]
  ·rw[ho'];simp[rawInt]
  ·exact hs'.extBut T _ hTI hT
  ·exact hs'.extBut a _ haI ha
 done:=fun s Q E st hQ=>by
  obtain⟨hI,hT,ha⟩:=st
  refine fR hI ha hf rfl ?_
  dsimp only
  refine zz0 (wpAny_seqItems hT rfl ?_)
  dsimp only
  have e:(π.map fun(i:Nat)=>rawInt i).toArray[(π.map (HU es)).length]? =none:=by simp
  rw[e]
  dsimp only
  refine zz0 (cR hI rfl (by simp) fun h' hs' ho'=>?_)
  refine zz0 (cR (s:={s with heap:=h'}) ho' rfl (by simp) fun h2 hs2 _=>?_)
  exact tR (I:=I) (o:=cW es ep t) hh (fun h3 k=>hQ h3 s.toks fun b o hb e=>k b o (fun z=>hb (by simp[z])) e) (hs'.trans hs2).extBut
theorem mD{t:SetTable} {slot given:Nat} {Q:Option (Value×Nat)→Shared→Prop} (hb:w.params.followText "set-order"=true) (ha:s.heap.get? a=some (cW es ep t)) (hf:t.fits es.size=true)
  (h:Q (((pickOrder (w.params.setOrder a ep) es)[given]?).map fun e=>(e.2,slot)) s):wpAny (model prog w) A (setNext a slot given ep) Q E s:=by
 unfold setNext setsByText
 refine zz0 (wpAny_setState_of ha rfl hf ?_)
 dsimp only
 refine zz0 (zz0 (wpAny_askSetting (zz1 ?_)))
 rw[if_pos (show(model prog w).w.params.followText "set-order"=true from hb)]
 rw[if_neg (by simp)]
 refine zz0 ?_
 unfold setWalk setsByText
 refine zz0 (wpAny_setState_of ha rfl hf ?_)
 dsimp only
 refine zz0 (zz0 (wpAny_askSetting (zz1 ?_)))
 rw[if_pos (show(model prog w).w.params.followText "set-order"=true from hb)]
 refine zz0 (wpAny_askSetting (zz1 ?_))
 exact zz1 h
theorem oF{t:SetTable} {slot given:Nat} {Q:Option (Value×Nat)→Shared→Prop} (hb:w.params.followText "set-order"=false) (hsz:es.size≤1) (hled:t.led=true) (ha:s.heap.get? a=some (cW es ep t)) (hf:t.fits es.size=true)
  (h:Q (match es[SetTable.below t.place slot]?,t.place[SetTable.below t.place slot]? with |some (_,x),some j=>some (x,j+1) |_,_=>none) s):wpAny (model prog w) A (setNext a slot given ep) Q E s:=by
 unfold setNext setsByText
 refine zz0 (wpAny_setState_of ha rfl hf ?_)
 dsimp only
 refine zz0 (zz0 (wpAny_askSetting (zz1 ?_)))
 rw[if_neg (show ¬((model prog w).w.params.followText "set-order"=true) by show ¬(w.params.followText "set-order"=true);rw[hb];decide)]
 have hd:(!t.plain&&decide (es.size > 1))=false:=by rw[zz3 (by omega)];simp
 show wpAny _ _ (if (!t.plain&&decide (es.size > 1))=true then _ else _) _ _ _
 rw[hd,if_neg (by decide)]
 show wpAny _ _ ((if (!t.led&& !es.isEmpty)=true then unsupported "set:maker-not-led" else pure PUnit.unit) >>= _) _ _ _
 rw[hled,if_neg (by simp)]
 refine zz0 (zz1 ?_)
 exact zz1 h
theorem BR(hh:A.handled=none)    {t:SetTable} (hb:w.params.followText "set-order"=true) (hf:t.fits es.size=true) (haI:a≠I):
  Walks prog w A I [I,a] [I] ((pickOrder (w.params.setOrder a ep) es).toList.map (·.2)).length (fun i v=>((pickOrder (w.params.setOrder a ep) es).toList.map (·.2))[i]? =some v)
   (fun i h=>h.get? I=some (wg (.int 0 0) i a es.size ep)∧h.get? a=some (cW es ep t)) where
 sub:=fun b hb=>by simp at hb;simp[hb]
 frame:=fun _ _ _ st hk=>⟨hk I (by simp) _ st.1,hk a (by simp) _ st.2⟩
 self:=fun _ _ _ _ st hQ=>tQ st.1 hQ
 item:=fun i s Q E hi st hQ=>by
  obtain⟨hI,ha⟩:=st
  have hi':i < (pickOrder (w.params.setOrder a ep) es).size:=by simpa using hi
  refine fR hI ha hf rfl ?_
  dsimp only
  refine zz0 (mD hb ha hf ?_)
  rw[Array.getElem?_eq_getElem hi']
  dsimp only[Z1]
  refine zz0 (cR hI rfl (by simp) fun h' hs' ho'=>?_)
  refine zz0 (cR (s:={s with heap:=h'}) ho' rfl (by simp) fun h2 hs2 ho2=>?_)
  refine zz1 ⟨_,rfl,zz1 (hQ _ h2 s.toks ?_ ⟨?_,?_⟩ fun b o hb e=>(hs'.trans hs2).extBut b o (fun z=>hb (by simp[z])) e)⟩
  ·simp[hi']
  ·rw[ho2];simp[rawInt]
  ·exact(hs'.trans hs2).extBut a _ haI ha
 done:=fun s Q E st hQ=>by
  obtain⟨hI,ha⟩:=st
  refine fR hI ha hf rfl ?_
  dsimp only
  refine zz0 (mD hb ha hf ?_)
  rw[show(pickOrder (w.params.setOrder a ep) es)[((pickOrder (w.params.setOrder a ep) es).toList.map (·.2)).length]? =none by simp]
  dsimp only[Option.map_none]
  refine zz0 (cR hI rfl (by simp) fun h' hs' ho'=>?_)
  exact tR (I:=I) (o:=cW es ep t) hh (fun h3 k=>hQ h3 s.toks fun b o hb e=>k b o (fun z=>hb (by simp[z])) e) hs'.extBut
theorem pY{xs:Array Nat}(h:xs.size≤1):SetTable.below xs 0=0:=by
 obtain⟨l⟩:=xs
 match l,h with
 |[],_=>rfl
 |[p],_=>simp[SetTable.below,SetTable.below.go]
theorem yJ{p:Nat}:SetTable.below #[p] (p+1)=1:=by simp[SetTable.below,SetTable.below.go]
theorem D2(hh:A.handled=none)    {t:SetTable} (hb:w.params.followText "set-order"=false) (hsz:es.size≤1) (hled:t.led=true) (hf:t.fits es.size=true) (haI:a≠I):
  Walks prog w A I [I,a] [I] (es.toList.map (·.2)).length (fun i v=>(es.toList.map (·.2))[i]? =some v)
   (fun i h=>h.get? I=some (wg (.int (if i=0 then 0 else (t.place.getD 0 0+1:Nat)) 0) i a es.size ep)∧h.get? a=some (cW es ep t)) where
 sub:=fun b hb=>by simp at hb;simp[hb]
 frame:=fun _ _ _ st hk=>⟨hk I (by simp) _ st.1,hk a (by simp) _ st.2⟩
 self:=fun _ _ _ _ st hQ=>tQ st.1 hQ
 item:=fun i s Q E hi st hQ=>by
  obtain⟨hI,ha⟩:=st
  have hi':i < es.size:=by simpa using hi
  have hi0:i=0:=by omega
  subst hi0
  rw[if_pos rfl]at hI
  have hps:t.place.size=es.size:=by
   have:=hf;simp only[SetTable.fits,rC,beq_iff_eq]at this;exact this.1
  refine fR hI ha hf rfl ?_
  dsimp only
  refine zz0 (oF hb hsz hled ha hf ?_)
  rw[show((0:Int)).toNat=0 from rfl,pY (by omega),Array.getElem?_eq_getElem hi',Array.getElem?_eq_getElem (show 0 < t.place.size by omega)]
  dsimp only
  refine zz0 (cR hI rfl (by simp) fun h' hs' ho'=>?_)
  refine zz0 (cR (s:={s with heap:=h'}) ho' rfl (by simp) fun h2 hs2 ho2=>?_)
  refine zz1 ⟨_,rfl,zz1 (hQ _ h2 s.toks ?_ ⟨?_,?_⟩ fun b o hb e=>(hs'.trans hs2).extBut b o (fun z=>hb (by simp[z])) e)⟩
  ·simp[hi']
  ·rw[ho2]
   have:t.place.getD 0 0=t.place[0]:=by simp[Array.getD,show 0 < t.place.size by omega]
   simp[rawInt,this]
  ·exact(hs'.trans hs2).extBut a _ haI ha
 done:=fun s Q E st hQ=>by
  obtain⟨hI,ha⟩:=st
  have hps:t.place.size=es.size:=by
   have:=hf;simp only[SetTable.fits,rC,beq_iff_eq]at this;exact this.1
  have hlen:(es.toList.map (·.2)).length=es.size:=by simp
  rw[hlen]at hI
  refine fR hI ha hf rfl ?_
  dsimp only
  refine zz0 (oF hb hsz hled ha hf ?_)
  have hno:(match es[SetTable.below t.place (if es.size=0 then (0:Int)else ((t.place.getD 0 0+1:Nat):Int)).toNat]?,t.place[SetTable.below t.place (if es.size=0 then (0:Int)else ((t.place.getD 0 0+1:Nat):Int)).toNat]? with |some (_,x),some j=>some (x,j+1) |_,_=>(none:Option (Value×Nat)))=none:=by
   by_cases z:es.size=0
   ·rw[if_pos z,show((0:Int)).toNat=0 from rfl,pY (by omega),Array.getElem?_eq_none (by omega)]
   ·rw[if_neg z]
    obtain⟨⟨p⟩,hp⟩:∃q:{p:Nat // t.place=#[p]},True:=by
     generalize t.place=pl at hps
     obtain⟨l⟩:=pl
     match l,hps with
     |[],h=>simp at h;omega
     |[p],h=>exact⟨⟨p,rfl⟩,trivial⟩
     |_::_::_,h=>simp at h;omega
    rename_i hpl
    rw[hpl]
    simp only[Int.toNat_natCast]
    have:(#[p]:Array Nat).getD 0 0=p:=rfl
    rw[this,yJ,Array.getElem?_eq_none (show es.size≤1 by omega)]
  rw[hno]
  dsimp only
  refine zz0 (cR hI rfl (by simp) fun h' hs' ho'=>?_)
  exact tR (I:=I) (o:=cW es ep t) hh (fun h3 k=>hQ h3 s.toks fun b o hb e=>k b o (fun z=>hb (by simp[z])) e) hs'.extBut
theorem D3{t:SetTable}(ha:s.heap.get? a=some (cW es ep t))(S:SS w (k9 w) ks es t)
  (hQ:∀(s':Shared) (I:Addr) (fp:List Addr) (St:Nat→Heap→Prop) (items:List Value),(∀b o,s.heap.get? b=some o→s'.heap.get? b=some o)→s.heap.objs.size≤s'.heap.objs.size→s'.gens=s.gens→s'.os=s.os→s'.toks=s.toks→(∀b∈fp,b=a∨s.heap.objs.size≤b)→s.heap.objs.size≤I→
   (∀A':Around,A'.handled=none→Walks prog w A' I fp [I] items.length (fun i v=>items[i]? =some v) St)→St 0 s'.heap→items.Perm (es.toList.map (·.2))→Q (.ref I) s'):
  wpAny (model prog w) A (pyIter (.ref a)) Q E s:=by
 have hT:s.TypeIs (.ref a) "set":=⟨_,ha,rfl⟩
 have hlt:a < s.heap.objs.size:=fP ha
 refine wpAny_pyIter_slot hT PySem.F.slot_set_iter (wpAny_call_entry PySem.F.slot_set_iter hT F.pX ?_ (PySem.F.args_set_iter_1 _))
 unfold Builtin.«frozenset.__iter__» Builtin.Frozenset.slot0 slotArgs
 simp only[List.isEmpty_nil,↓reduceIte,bind_assoc,Z5,bne_self_eq_false,iy]
 unfold Builtin.Frozenset.addrOf Builtin.Frozenset.sizeOf
 refine zz0 (zz1 ?_)
 try dsimp only
 refine zz0 (zz1 ?_)
 refine zz0 (zz0 (wpAny_setEntries_of ha rfl S.fits (zz1 ?_)))
 refine zz0 (wj ha S.fits ?_)
 cases hd:(!(w.params.followText "set-order")&&(!t.plain&&decide (es.size > 1)))with
 |true=>
  simp only[↓reduceIte]
  refine zz0 (jJ es.size (List.range es.size) s (by simp) fun π d hp=>?_)
  have hl:π.length=es.size:=by rw[hp.length_eq,List.length_range]
  have hm:∀j∈π,j < es.size:=fun j hj=>List.mem_range.mp (hp.mem_iff.mp hj)
  refine zz0 (wpAny_newTuple (s:={s with drawn:=d}) ?_ (by rw[eM,hl];exact fits_of_scanBound S.bound))
  have ha2:(s.heap.push {cls:=.type "tuple",data:=.seq (π.map fun(i:Nat)=>rawInt i).toArray}).get? a=some (cW es ep t):=gD _ ha
  refine zz0 (wpAny_setEpoch_of (s:={s with drawn:=d,heap:=s.heap.push {cls:=.type "tuple",data:=.seq (π.map fun(i:Nat)=>rawInt i).toArray}}) ha2 rfl S.fits ?_)
  refine zz0 (wpAny_newObj_type ?_)
  have hs1:(s.heap.push {cls:=.type "tuple",data:=.seq (π.map fun(i:Nat)=>rawInt i).toArray}).objs.size=s.heap.objs.size+1:=by rw[zzD]
  refine zz1 ⟨_,rfl,"set_iterator",_,⟨_,mf _ rfl,rfl⟩,F.slot_next.lookup,?_⟩
  refine hQ _ _ _ _ (π.map (HU es)) (fun b o e=>gD _ (gD _ e)) (by rw[zzD,zzD];omega) rfl rfl rfl ?_ (by dsimp only;rw[hs1];omega)
   (fun A' hA=>yI hA (T:=s.heap.objs.size) (a:=a) (ep:=ep) (t:=t) π hm hl S.fits (by dsimp only;rw[hs1];exact gS (zzC _)) (by dsimp only;rw[hs1];exact gS (xJ hlt)))
   ⟨mf _ rfl,gD _ (mf _ rfl),gD _ ha2⟩ ?_
  ·intro b hb
   rcases Zag.mp hb with rfl |hb
   ·right;dsimp only;rw[hs1];omega
   rcases Zag.mp hb with rfl |hb
   ·right;exact fz _
   ·left;exact Zaf.mp hb
  ·refine(hp.map (HU es)).trans ?_
   rw[show(List.range es.size).map (HU es)=es.toList.map (·.2)from ?_]
   refine List.ext_getElem (by simp) fun i h1 h2=>?_
   have hi:i < es.size:=by simpa using h1
   simp[HU,hi]
 |false=>
  simp only[Bool.false_eq_true,↓reduceIte]
  refine zz0 (zz1 ?_)
  refine zz0 (wpAny_setEpoch_of ha rfl S.fits ?_)
  refine zz0 (wpAny_newObj_type ?_)
  refine zz1 ⟨_,rfl,"set_iterator",_,⟨_,mf _ rfl,rfl⟩,F.slot_next.lookup,?_⟩
  have hfp:∀b∈[s.heap.objs.size,a],b=a∨s.heap.objs.size≤b:=fun b hb=>by
   rcases Zag.mp hb with rfl |hb
   ·right;exact fz _
   ·left;exact Zaf.mp hb
  cases hb:w.params.followText "set-order" with
  |true=>
   exact hQ _ _ _ _ ((pickOrder (w.params.setOrder a ep) es).toList.map (·.2)) (fun b o e=>gD _ e) (by rw[zzD];omega) rfl rfl rfl hfp (fz _)
    (fun A' hA=>BR hA (t:=t) hb S.fits (gS hlt)) ⟨mf _ rfl,gD _ ha⟩ ((pW _ es).map _)
  |false=>
   have hled:t.led=true:=by rw[S.led,k9,hb];rfl
   have hsz:es.size≤1:=by
    rw[hb]at hd
    by_cases z:es.size=0
    ·omega
    ·rw[S.plain z]at hd
     simp at hd
     omega
   exact hQ _ _ _ _ (es.toList.map (·.2)) (fun b o e=>gD _ e) (by rw[zzD];omega) rfl rfl rfl hfp (fz _)
    (fun A' hA=>D2 hA (t:=t) hb hsz hled S.fits (gS hlt)) ⟨mf _ rfl,gD _ ha⟩ (List.Perm.refl _)
end
end NhSet
namespace NhSet
open PySem PyProof.Rows
namespace F
theorem GB:typeLookup (.type "set") "__len__"=pure (some (.builtin "set.__len__")):=by rw[typeLookup_type,builtinLookup_eq_fast];kernel_rfl
end F
section
variable {prog:Program} {w:World} {A:Around} {E:Value→Shared→Prop} {s:Shared}
theorem wk{t:SetTable}{Q:List Value→Shared→Prop}(hh:A.handled=none)(ha:s.heap.get? a=some (cW es ep t))(S:SS w (k9 w) ks es t)
  (hQ:∀(s':Shared) (items:List Value),(∀b o,s.heap.get? b=some o→s'.heap.get? b=some o)→s'.gens=s.gens→s'.os=s.os→s.heap.objs.size≤s'.heap.objs.size→items.Perm (es.toList.map (·.2))→Q items s'):
  wpAny (model prog w) A (collect (.ref a)) Q E s:=by
 have hlt:a < s.heap.objs.size:=fP ha
 unfold collect
 refine zz0 (wpAny_runValue (codeAny_builtin PySem.F.entry_proto_collect ?_))
 rw[Around.under_plainId PySem.F.plain_proto_collect _]
 show wpAny _ A.in1 (newList [] >>= fun l=>again (.builtin "list.__iadd__" ⟨[l,.ref a],[]⟩)) _ _ s
 refine zz0 (wpAny_newObj_type ?_)
 refine zz1 ⟨plainId_quiet PySem.F.plain_list_iadd _,codeAny_builtin PySem.F.entry_list_iadd ?_⟩
 rw[Around.under_plainId PySem.F.plain_list_iadd _]
 show wpAny _ A.in1 (Builtin.List.listExtendWith (.ref s.heap.objs.size) (.ref a) (.ref s.heap.objs.size)) _ _ _
 unfold Builtin.List.listExtendWith
 have ha1:(s.heap.push {cls:=.type "list",data:=.seq ([]:List Value).toArray}).get? a=some (cW es ep t):=gD _ ha
 have hT1:Shared.TypeIs {s with heap:=s.heap.push {cls:=.type "list",data:=.seq ([]:List Value).toArray}} (.ref a) "set":=⟨_,ha1,rfl⟩
 refine zz0 (wpAny_typeOf hT1 ?_)
 have h1:Builtin.List.listSameRef (.ref s.heap.objs.size) (.ref a)=false:=by simp[Builtin.List.listSameRef];exact Nat.ne_of_gt hlt
 have h2:(Value.type "set" == Value.type "list")=false:=by decide
 have h3:(Value.type "set" == Value.type "tuple")=false:=by decide
 simp only[h1,h2,h3,Bool.or_false,iy]
 refine zz0 (D3 ha1 S fun s2 I fp St items k2 z2 g2 o2 t2 hfp hI W hst hp=>?_)
 have hT2:s2.TypeIs (.ref a) "set":=⟨_,k2 a _ ha1,rfl⟩
 refine zz0 (zz7 ?_)
 unfold Builtin.List.listLengthHint
 refine zz0 (wpAny_specialOf hT2 F.GB ?_)
 wp_delta
 refine zz0 (wpAny_isInstance (T:="set") (b:=true) hT2 sub_set_self ?_)
 show wpAny _ A.in1 (typeOf (Value.ref a) >>= _) _ _ _
 refine zz0 (wpAny_typeOf hT2 ?_)
 refine zz1 ?_
 rw[if_pos (by decide)]
 refine zz0 (wpAny_rule ?_)
 have hS0:s2.heap.get? s.heap.objs.size=some {cls:=.type "list",data:=.seq ([]:List Value).toArray}:=k2 _ _ (mf _ rfl)
 refine zz0 ?_
 show wpAny _ A.in1 (updateSeq s.heap.objs.size (·.push .none) >>= fun _=>updateSeq s.heap.objs.size (·.pop)) _ _ _
 refine zz0 (wpAny_updateSeq hS0 rfl ?_)
 have hS2:=Heap.get?_update_self (Obj.mapSeq (·.push Value.none)) hS0 rfl
 refine wpAny_updateSeq hS2 rfl ?_
 have hS3:=Heap.get?_update_self (Obj.mapSeq (·.pop)) hS2 rfl
 have oth:∀b o,b≠s.heap.objs.size→s2.heap.get? b=some o→
   ((s2.heap.update s.heap.objs.size (Obj.mapSeq (·.push Value.none))).update s.heap.objs.size (Obj.mapSeq (·.pop))).get? b=some o:=
  fun b o hb e=>(FE _ _ (Ne.symm hb)).trans ((FE _ _ (Ne.symm hb)).trans e)
 have hz1:(s.heap.push {cls:=.type "list",data:=.seq ([]:List Value).toArray}).objs.size=s.heap.objs.size+1:=by rw[zzD]
 have hnS:∀b,(s.heap.push {cls:=.type "list",data:=.seq ([]:List Value).toArray}).objs.size≤b→b≠s.heap.objs.size:=fun b hb e=>by
  rw[hz1,e]at hb;exact Nat.not_succ_le_self _ hb
 have hSf:s.heap.objs.size∉fp:=fun hm=>by
  rcases hfp _ hm with e |e
  ·exact absurd e (Nat.ne_of_gt hlt)
  ·exact hnS _ e rfl
 have hlen:items.length≤sizeLine:=by
  rw[hp.length_eq];simpa using fits_of_scanBound S.bound
 refine zz1 ⟨plainId_quiet PySem.F.plain_extend_loop _,codeAny_extend_loopS (W A.in1 (by simp[hh])).toS hlen _ hSf _ items.length 0 _ _ _ rfl (zz9 _)
  ((W A.in1 (by simp[hh])).frame 0 s2.heap _ hst fun b hb o e=>oth b o (fun z=>hSf (z▸hb)) e) hS3 (ItemsOf.nil _) fun s' acc' c' hm hS' hacc=>?_⟩
 show wpAny _ A (load s.heap.objs.size >>= _) _ _ s'
 refine zz0 (wpAny_load hS' ?_)
 have hacc':acc'.toList=items:=by
  refine List.ext_getElem? fun i=>?_
  rw[Array.getElem?_toList]
  by_cases hi:i < acc'.size
  ·rw[Array.getElem?_eq_getElem hi]
   exact(hacc.2 i _ (Array.getElem?_eq_getElem hi)).symm
  ·rw[Array.getElem?_eq_none (by omega),List.getElem?_eq_none (by rw[←hacc.1];omega)]
 refine zz1 ?_
 rw[hacc']
 refine hQ s' items (fun b o e=>?_) (hm.gens.trans g2) (hm.os.trans o2) (lq (fP hS')) hp
 have hb:b < s.heap.objs.size:=fP e
 refine hm.heap b o (fun z=>?_) (oth b o (gS hb) (k2 b o (gD _ e)))
 rcases Zag.mp z with z |z
 ·exact absurd z (gS hb)
 ·rw[Zaf.mp z]at hb
  have hI':s.heap.objs.size+1≤I:=by rw[←hz1];exact hI
  exact absurd (ma (zzC _) hI') (Nat.lt_asymm hb)
theorem yK(hh:A.handled=none)(hS:StrSet w s.heap a (k9 w) ks)(h64:ks.length < 64)
  (h:∀(s':Shared) (l:Addr) (out:Array Value) (e:Nat) (ss':List Str),(∀b o,s.heap.get? b=some o→s'.heap.get? b=some o)→s'.gens=s.gens→s'.os=s.os→s.heap.objs.size≤l→s'.heap.get? l=some (seqObj "list" out e)→StrsAre out.toList ss'→ss'.Perm ks→sortedS ss'=true→Q (.ref l) s'):
  wpAny (model prog w) A (call (.builtin "sorted") [.ref a]) Q E s:=by
 obtain⟨es,ep,t,ha,S⟩:=hS
 refine Calls.call_function_entry kind_sorted plain_sorted entry_sorted (args_sorted1 _) ?_
 unfold Builtin.«sorted»
 refine zz0 (m:=checkCount "sorted" 1 1 _) (zz1 ?_)
 refine zz0 (wk (by simp[hh]) ha S fun s1 items k1 g1 o1 hsz hp=>?_)
 have hpk:(items.map strOf).Perm ks:=(hp.map strOf).trans (by rw[List.map_map];exact S.perm)
 have hst:∀v∈items,∃x tk,v=.str x tk:=fun v hv=>by
  obtain⟨e,he,rfl⟩:=Zbf.mp (hp.mem_iff.mp hv)
  obtain⟨x,tk,rfl⟩:=S.elems e he
  exact⟨x,tk,rfl⟩
 have hSA:=strsAre_map items hst
 have hl64:items.length < 64:=by have:=hpk.length_eq;rw[eM]at this;omega
 refine zz0 (wpAny_newList ?_)
 have hoL:(s1.heap.push (seqObj "list" items.toArray 0)).get? s1.heap.objs.size=some (seqObj "list" items.toArray 0):=mf _ rfl
 refine zz0 (zz7 (wpAny_call_entry slot_list_sort ⟨_,hoL,rfl⟩ entry_list_sort (list_sort_treeK (s:={s1 with heap:=s1.heap.push (seqObj "list" items.toArray 0)}) strKind_oneLt hoL hSA.keysOf (fun v₁ v₂ eN e=>keyKind_strs (by rw[←e];exact hSA)) hl64 fun st' a1 a2=>⟨_,rfl,?_⟩) (args_list_sort _)))
 obtain⟨ss',b1,b2,b3⟩:=sorted_out_str hSA a1 a2
 obtain⟨e,he⟩:=sortedHeap_at (out:=(arrOf st').map (·.2)) hoL
 refine zz1 ⟨_,rfl,h _ s1.heap.objs.size _ e ss' (fun b o hb=>?_) g1 o1 hsz he b1 (b2.trans hpk) b3⟩
 have hb1:=k1 b o hb
 have hlt:=fP hb1
 dsimp only
 rw[sortedHeap_old (gS hlt) (by rw[size_push'];exact xJ hlt),Heap.get?_push_ne _ _ _ (gS hlt)]
 exact hb1
end
end NhSet
namespace PL
open PySem L2 Nh
def BS(w:World)(a:Addr)(ks:List Str):HO:=.ext fun h=>NhSet.StrSet w h a (NhSet.k9 w) ks
theorem D4(ns:List Str)(n:Nat)(h:n=ns.length):NhSet.lD (fun i=>ns.getD i ⟨#[]⟩) n=j6 ns:=by
 have e:(List.range n).map (fun i=>ns.getD i ⟨#[]⟩)=ns:=by
  subst h
  refine List.ext_getElem (by simp) fun i h1 h2=>?_
  simp[h2]
 show((List.range n).map (fun i=>ns.getD i ⟨#[]⟩)).foldl NhSet.oY []=ns.foldl FH []
 rw[e]
 rfl
theorem BT(x:Str):NhSet.lD (NhSet.jj x) x.cps.size=j6 (mw x):=by
 have e:(List.range x.cps.size).map (NhSet.jj x)=mw x:=by
  refine List.ext_getElem (by simp[mw]) fun i h1 h2=>?_
  have hi:i < x.cps.size:=by simpa using h1
  simp[mw,NhSet.jj,hi]
 show((List.range x.cps.size).map (NhSet.jj x)).foldl NhSet.oY []=(mw x).foldl FH []
 rw[e]
 rfl
section
variable {X:Cx} {e:Expr} {m1:Bool} {f:ba} {p p2 pos pos2:Pos}
def wl(K:Frag)(w:World):List V→Hp→VK→Prop:=fun xs H Q=>
 (∃(p:Addr) (ss:List Str),xs=[.ref p]∧SqL K H p (ss.map V.str)∧ss.length < 4000∧∀a,H a=none→Q (.ref a) (upd H a (BS w a (j6 ss))))∨
 ∃x:Str,xs=[.str x]∧(mw x).length < 4000∧∀a,H a=none→Q (.ref a) (upd H a (BS w a (j6 (mw x))))
theorem BU(hc:X.calm=true):CallR X (.type "set") (wl X.K X.w):=by
 intro pins s σ H xs us Q I r h
 rcases h with⟨p,ss,rfl,hq,hl,q⟩ |⟨x,rfl,hl,q⟩
 ·cases r with
  |cons r rr=>
   cases rr
   cases r
   obtain⟨its,rv,pl,hz⟩:=I.list hq
   have hS:=pT rv
   have hlen:its.length=ss.length:=by have:=rv.length;simpa using this.symm
   refine NhSet.BO (I.ok.hd hc) pl.isList (by simpa using hS) (by simp only[k7,scanBound];omega) fun h' tk S k=>?_
   rw[D4 ss its.toArray.size (by simpa using hlen)]at S
   exact⟨.ref s.heap.objs.size,_,I.laid (fun b o e=>k b o (fP e) e) (fz _) (show ObjOk X.prog X.w _ _ _ (BS X.w s.heap.objs.size (j6 ss))from⟨S,S.obj,fun h1 h2 T kk=>T.at' kk⟩),rfl,q _ (I.hok.fresh (fz _))⟩
 ·cases r with
  |cons r rr=>
   cases rr
   obtain⟨t,rfl⟩:=r
   have hl2:x.cps.size < 4000:=by simpa[mw]using hl
   refine NhSet.D1 (I.ok.hd hc) (by simp only[scanBound];omega) fun h' tk S k=>?_
   rw[BT]at S
   exact⟨.ref s.heap.objs.size,_,I.laid (fun b o e=>k b o (fP e) e) (fz _) (show ObjOk X.prog X.w _ _ _ (BS X.w s.heap.objs.size (j6 (mw x)))from⟨S,S.obj,fun h1 h2 T kk=>T.at' kk⟩),rfl,q _ (I.hok.fresh (fz _))⟩
def D5(w:World):List V→Hp→VK→Prop:=fun xs H Q=>∃(a:Addr) (ks:List Str),xs=[.ref a]∧H a=some (BS w a ks)∧ks.length < 64∧∀l,H l=none→Q (.ref l) (upd H l (.lst ((iE ks).map V.str)))
theorem tT(hc:X.calm=true):CallR X (.builtin "sorted") (D5 X.w):=by
 intro pins s σ H xs us Q I r h
 obtain⟨a,ks,rfl,ha,h64,q⟩:=h
 cases r with
 |cons r rr=>
  cases rr
  cases r
  obtain⟨S,_,_⟩:ObjOk X.prog X.w H s.heap a (BS X.w a ks):=I.hok a _ ha
  refine NhSet.yK (I.ok.hd hc) S h64 fun s' l out e ss' k g o hl he b1 b2 b3=>?_
  have:=pS b2 b3
  subst this
  have new:ObjOk X.prog X.w (upd H l (.lst ((iE ks).map V.str))) s'.heap l (.lst ((iE ks).map V.str)):=⟨by rw[eM,nz];exact gX (by omega),out.toList,e,pU b1,he⟩
  exact⟨.ref l,_,I.call' (ch:=[]) o (Un.laid k hl (I.hok.fresh hl)) (I.hok.laid k hl new) (by rw[g];exact I.bare) (fun _ z=>nomatch z),rfl,q _ (I.hok.fresh hl)⟩
theorem pZ(hc:X.calm=true) (hg:Gl X "sorted") (hm:X.mg "sorted"=none) (hg2:Gl X "set") (hm2:X.mg "set"=none) (ha:EX X e m1 f) (he:starEach [e] X.env=[(false,eval e X.env)]:=by rfl)
  (he2:starEach [.Call (.Name "set" p2) [e] [] pos2] X.env=[(false,eval (.Call (.Name "set" p2) [e] [] pos2) X.env)]:=by rfl):EX X (.Call (.Name "sorted" p) [.Call (.Name "set" p2) [e] [] pos2] [] pos) m1 (j7 f):=by
 refine bA (jU (tT hc) hg hm PyProof.Rows.boot_sorted (bU (rK (BU hc) hg2 hm2 PyProof.Rows.boot_set (bU ha d0 he) (by decide) (by decide) he rfl) d0 he2) (by decide) (by decide) he2 rfl) fun σ H Q z=>?_
 obtain⟨B,E,xs,Xs,res,E',fr,cl,e,q⟩:=z
 obtain⟨⟨s,E1⟩,e1,e⟩:=Za.mp e
 refine⟨B,E,xs,Xs,s,E1,fr,cl,e1,fun v1 H1 ⟨F,A,fr1⟩=>?_⟩
 obtain⟨A',fr2⟩:=fr1.pop
 simp only at e
 split at e
 ·rename_i ds ld
  obtain⟨ss,es,e⟩:=Za.mp e
  split at e
  ·rename_i hc
   cases e
   have r:=(fr1.look0 ld).1
   cases r with
   |lst h1 h2=>
    have:=pf h2 es
    subst this
    exact .inl ⟨_,ss,rfl,h1,hc.1,fun a ha=>⟨a,_,rfl,upd_same,hc.2,fun l hl=>q _ _ ⟨_,_,(fr2.grow (gW ha _)).newl (j5 _) hl⟩⟩⟩
  ·cases e
 ·rename_i x ld
  split at e
  ·rename_i hc
   cases e
   have r:=(fr1.look0 ld).1
   cases r
   exact .inr ⟨x,rfl,hc.1,fun a ha=>⟨a,_,rfl,upd_same,hc.2,fun l hl=>q _ _ ⟨_,_,(fr2.grow (gW ha _)).newl (j5 _) hl⟩⟩⟩
  ·cases e
 ·cases e
end
end PL
namespace PL
open PySem L2 Nh
theorem tU{i:Int} {t:Tok} {pos:Pos} (hg:Gl X x) (hm:X.mg x=some (.int i t)) (hd:(x == ("__debug__":Str))=false:=by decide):EX X (.Name x pos) false (pC (.int i)):=by
 refine bA (sV (v:=.int i) hg hm ⟨t,rfl⟩ hd) fun σ H Q z=>?_
 obtain⟨B,E,xs,Xs,res,E',⟨F,A,fr⟩,cl,e,q⟩:=z
 cases e
 exact q _ _ ⟨F,A,fr.push ⟨rfl,_,rfl,.int _⟩⟩
theorem GC{y:Str} {t:Tok} {pos:Pos} (hg:Gl X x) (hm:X.mg x=some (.str y t)) (hd:(x == ("__debug__":Str))=false:=by decide):EX X (.Name x pos) false (pC (.str y)):=by
 refine bA (sV (v:=.str y) hg hm ⟨t,rfl⟩ hd) fun σ H Q z=>?_
 obtain⟨B,E,xs,Xs,res,E',⟨F,A,fr⟩,cl,e,q⟩:=z
 cases e
 exact q _ _ ⟨F,A,fr.push ⟨rfl,_,rfl,.str _⟩⟩
end PL
namespace Nh
open PySem L2 PL
theorem Ly:∀j,j < 26→(Str.ofString "abcdefghijklmnopqrstuvwxyz").cps.toList[j]? =some (97+j):=by decide+kernel
theorem Lz(v:Int):atI (Str.ofString "abcdefghijklmnopqrstuvwxyz").cps.toList (v % 26)=some (97+(v % 26).toNat):=by
 have h0:=Int.emod_nonneg v (show(26:Int)≠0 by decide)
 have h1:=Int.emod_lt_of_pos v (show(0:Int) < 26 by decide)
 rw[Jv h0]
 exact Ly _ (by omega)
theorem yL:(Str.ofString "abcdefghijklmnopqrstuvwxyz").length≤1000000:=by decide+kernel
theorem ph{i j:Int}(h1: -(2 ^ 64) < j)(h2:j < 2 ^ 64):fN i j=true:=by
 simp only[fN,Bool.or_eq_true,decide_eq_true_eq]
 exact .inl (.inr ⟨h1,h2⟩)
theorem mE{i j:Int}(h1: -(2 ^ 64) < i)(h2:i < 2 ^ 64):fN i j=true:=by
 simp only[fN,Bool.or_eq_true,decide_eq_true_eq]
 exact .inl (.inl ⟨h1,h2⟩)
theorem At(i j:Int):Ai (.int i) (.int j)=some (decide (i=j)):=rfl
end Nh
namespace L2
open PySem PySem.Spec PyProof.Rows
def Au(K:Frag)(h:Heap):Prop:=∀b q,mh K b=some q→h.get? b=some (tabObj #[])∧(∃c,PySem.W.CodeHd h c b)∧K.lookup b=none
def dX(K:Frag)(a:Addr)(so:Option HO):Hp:=fun b=>match mh K b with
 |some q=>some (.tbl q)
 |none=>if b=a then so else none
theorem yM{K:Frag}{b:Addr}(e:mh K b=some q):dX K a so b=some (.tbl q):=by unfold dX;rw[e]
theorem BV{K:Frag}(e:mh K a=none):dX K a so a=so:=by unfold dX;rw[e];exact if_pos rfl
theorem gi{K:Frag}{b:Addr}{u:HO}(e:dX K a so b=some u):(∃q,mh K b=some q∧u=.tbl q)∨(b=a∧so=some u):=by
 unfold dX at e
 split at e
 ·rename_i q h;cases e;exact .inl ⟨q,h,rfl⟩
 ·by_cases hb:b=a
  ·rw[if_pos hb]at e;exact .inr ⟨hb,e⟩
  ·rw[if_neg hb]at e;cases e
section
variable {P:Program} {w:World} {K:Frag} {mg mb:Str→Option Value} {CX:C8} {k:Nat} {fa a:Addr} {fd:FuncData} {x:Str} {sp:Sp} {s₁:Shared} {vs:List Value} {ns:List Int}
theorem GD(KX:K.In s₁.heap) (hns:s₁.heap.Ns mainGlobals mg) (hb:s₁.heap.Ns builtinsNs mb) (hbb:∀x:Str,x≠"__name__"→mb x=bootBuiltins x) (hlim:s₁.heap.NoLimit) (hg:s₁.gens=#[]) (hbm:∃bm ob,mg "__builtins__"=some (.ref bm)∧bm≠builtinsNs∧s₁.heap.get? bm=some ob∧ob.cls=.type "module"∧ob.dict=some builtinsNs∧ob.data=.plain) (hT:Au K s₁.heap)
  (ha:s₁.heap.get? a=some {cls:=.type "list",data:=.seq vs.toArray}) (hi:IntsAre vs ns) (hl:ns.length≤sizeLine) (hr:Room k callerA)
  (F:∀base:Heap,K.In base→base.Ns mainGlobals mg→FnOk P w K mg base CX k fa fd [x] sp) (hbind:∀(s:Shared) (u:Value),BindsTo s fd ⟨[u],[]⟩ [(x,u)])
  (hsp:∀H:Hp,SqL K H a (ns.map V.int)→sp [.ref a] H (fun v _=>v=.bl true) fun _ _ _=>False)
  (hCX:∀H e s',CX [] H s₁ (fun _ _ _=>False) e s'→False):
  codeAny (model P w) callerA (.call (.ref fa) ⟨[.ref a],[]⟩) (fun r s'=>r=.ok (.ret (.bool true))∧OldK s₁.heap s'.heap∧s'.os=s₁.os∧AllBare s'.gens) s₁:=by
 have rv:=iW hi
 have lenV:=hi.length
 have tabA:mh K a=none:=by
  cases q:mh K a with
  |none=>rfl
  |some z=>
   have e:=(hT a z q).1
   rw[ha]at e
   cases e
 have main:∀so:Option HO,(so=none∨(so=some (.frz {cls:=.type "list",data:=.seq vs.toArray} (.lst (ns.map V.int)))∧K.lookup a=none))→SqL K (dX K a so) a (ns.map V.int)→
   codeAny (model P w) callerA (.call (.ref fa) ⟨[.ref a],[]⟩) (fun r s'=>r=.ok (.ret (.bool true))∧OldK s₁.heap s'.heap∧s'.os=s₁.os∧AllBare s'.gens) s₁:=by
  intro so hso hS
  have hok:HOk P w (dX K a so) s₁.heap:=fun b u e=>by
   rcases gi e with⟨q,e1,rfl⟩ |⟨rfl,e1⟩
   ·exact ObjOk.tbl0 (hT b q e1).1
   ·rcases hso with z |⟨z,_⟩
    ·rw[z]at e1;cases e1
    ·rw[z]at e1;cases e1
     exact⟨ha,by rw[eM];exact hl,vs,_,rv,ha⟩
  have free:∀{b:Addr} {o:Obj} {es:Array DictEntry} {ep:Nat},s₁.heap.get? b=some o→o.data=.dict es ep→dX K a so b=none:=fun {b o es ep} e d=>by
   cases q:dX K a so b with
   |none=>rfl
   |some u=>
    rcases gi q with⟨z,e1,_⟩ |⟨rfl,_⟩
    ·rw[(hT b z e1).1]at e;cases e;cases d
    ·rw[ha]at e;cases e;cases d
  have nsK:∀{b:Addr} {m:Str→Option Value},s₁.heap.Ns b m→(vI s₁.heap (dX K a so)).Ns b m:=fun {b m} ⟨o,es,ep,e,d,r⟩=>⟨o,es,ep,pB e (free e d),d,r⟩
  have kin:K.In (vI s₁.heap (dX K a so)):=fun b o e=>pB (KX b o e) (by
   cases q:dX K a so b with
   |none=>rfl
   |some u=>
    rcases gi q with⟨z,e1,_⟩ |⟨rfl,e1⟩
    ·rw[(hT b z e1).2.2]at e;cases e
    ·rcases hso with z |⟨_,z⟩
     ·rw[z]at e1;cases e1
     ·rw[z]at e;cases e)
  have bmK:∃bm ob,mg "__builtins__"=some (.ref bm)∧bm≠builtinsNs∧(vI s₁.heap (dX K a so)).get? bm=some ob∧ob.cls=.type "module"∧ob.dict=some builtinsNs∧ob.data=.plain:=by
   obtain⟨bm,ob,c1,c2,c3,c4,c5⟩:=hbm
   refine⟨bm,ob,c1,c2,pB c3 ?_,c4,c5⟩
   cases q:dX K a so bm with
   |none=>rfl
   |some u=>
    rcases gi q with⟨z,e1,_⟩ |⟨rfl,_⟩
    ·rw[(hT bm z e1).1]at c3;cases c3;cases c4
    ·rw[ha]at c3
     cases c3
     injection c4 with c6
     exact absurd c6 (by decide)
  have e0:Env0 P w K mg (vI s₁.heap (dX K a so)) callerA [] s₁ (dX K a so):=
   ⟨rfl,⟨kin,nsK hns,⟨mb,nsK hb,hbb⟩,let ⟨mc,h1,h2⟩:=hlim;⟨mc,nsK h1,h2⟩,bmK⟩,fun b o e=>FL e,Nat.le_of_eq (Bk _ _),trivial,fun b hb=>absurd (show b∈([]:List Addr)from hb) (by simp),hok,.of_eq hg,fun b q e=>yM e⟩
  refine codeAny_mono ((F _ kin (nsK hns)).run callerA [] s₁ _ ⟨[.ref a],[]⟩ [.ref a] [.ref a] _ _ hr e0 (hbind s₁ (.ref a)) (.cons rfl .nil) (hsp _ hS)) fun r s' h=>?_
  cases r with
  |error e=>exact(hCX _ e s' h).elim
  |ok fl=>
   cases fl with
   |next=>exact False.elim h
   |brk=>exact False.elim h
   |cont=>exact False.elim h
   |ret u=>
    obtain⟨v,H',os,bare,un,hok',r',q⟩:=h
    have q':v=.bl true:=q
    subst q'
    obtain rfl:u=Value.bool true:=r'
    have nofs:∀b,b∉iz ([]:List Env):=fun b z=>absurd (show b∈([]:List Addr)from z) (by simp)
    have step:∀b o,s₁.heap.get? b=some o→asItWas s₁.heap s'.heap b o∧∃o',s'.heap.get? b=some o':=fun b o e=>by
     cases q:dX K a so b with
     |none=>exact⟨.inl (un.keep b o e q (nofs b) (by simp)),_,un.keep b o e q (nofs b) (by simp)⟩
     |some u=>
      rcases gi q with⟨z,e1,rfl⟩ |⟨rfl,e1⟩
      ·obtain⟨t1,⟨c,t2⟩,_⟩:=hT b z e1
       obtain⟨ps,p1,_⟩:=hok' b _ (un.tbls b z q)
       rw[t1]at e
       cases e
       exact⟨.inr (.inl ⟨(t2.tab t1).isCodeTable,rfl,#[],ps,rfl,by simpa using p1⟩),_,p1⟩
      ·rcases hso with z |⟨z,_⟩
       ·rw[z]at e1;cases e1
       ·rw[z]at e1;cases e1
        have z2:=un.frzs b _ _ q
        obtain⟨e2,_⟩:=hok' b _ z2
        rw[ha]at e;cases e
        exact⟨.inl e2,_,e2⟩
    exact⟨rfl,⟨fun b o e=>(step b o e).1,fun b o e=>(step b o e).2⟩,os,bare⟩
 cases hk:K.lookup a with
 |some o=>
  have e:=KX a o hk
  rw[ha]at e
  cases e
  exact main none (.inl rfl) (.inr ⟨_,vs.toArray,_,hk,rfl,rfl,rfl,by rw[k7,lenV];exact hl,by simpa using rv⟩)
 |none=>exact main _ (.inr ⟨rfl,hk⟩) (.inl (.inr ⟨_,BV tabA⟩))
end
theorem D6{l:OpenLaw}{q:Program}{d:DefRec}{K:Params→Frag}{CX:World→C8}{sp:World→Sp}
  (hn:l.most=some n) (hn2:n≤sizeLine) (hdf:d.params.defaults=[]) (hr:Room k callerA)
  (hY:∀(w:World) (h:Heap),YP w h→(K w.params).In h∧Au (K w.params) h)
  (F:∀(w:World) (mg:Str→Option Value) (fa:Addr) (h:Heap),(K w.params).In h→h.Ns mainGlobals mg→mg d.name=some (.ref fa)→
   ∃fd:FuncData,(∀(s:Shared) (u:Value),BindsTo s fd ⟨[u],[]⟩ [(x,u)])∧
    ∀base:Heap,(K w.params).In base→base.Ns mainGlobals mg→FnOk l.prog w (K w.params) mg base (CX w) k fa fd [x] (sp w))
  (hsp:∀(w:World) (H:Hp) (a:Addr) (ns:List Int),ns.length≤n→SqL (K w.params) H a (ns.map V.int)→sp w [.ref a] H (fun v _=>v=.bl true) fun _ _ _=>False)
  (hCX:∀(w:World) (H:Hp) (s:Shared) (e:Value) (s':Shared),CX w [] H s (fun _ _ _=>False) e s'→False):
  PySem.W.WalkO q loose XP YP l.row.toRowW d [] (fun f vs=>PySem.call f vs):=by
 refine Att.vN hn hdf fun w s₀ s₁ mg mb fa o pm cd doc a vs ns G Y ho hd hcd hmg hobj hints hlen hg=>?_
 obtain⟨KX,KT⟩:=hY w _ Y
 obtain⟨fd,hb,hF⟩:=F w mg fa _ KX G.T.g hmg
 exact GD KX G.T.g G.T.b G.T.builtins G.T.nolimit hg G.T.bmain KT hobj hints (jP hlen hn2) hr hF hb (fun H hS=>hsp w H a ns hlen hS) fun H e s'=>hCX w H s₁ e s'
end L2
namespace PL
open PySem PySem.Spec PyProof.Rows L2 Nh PySem.W PySem.Calls Builtin Builtin.ObjectAttr Builtin.Getset_descriptor
structure ExCls (K:Frag) (C:Addr):Prop where
 cls:∃cd,clsIn K C=some cd
 ga:findIn K (.ref C) "__getattribute__"=some (some (.builtin "BaseException.__getattribute__"))
 gt:findIn K (.ref C) "__getattr__"=some none
 ca:findIn K (.ref C) "__class__"=some (some (.builtin "object.__class__"))
 mb:mroIn K C (.type "BaseException")=some true
 mo:mroIn K C (.type "object")=some true
section
variable {K:Frag} {a C:Addr} {M:Model} {h:Heap}
theorem lH(p:fM a C h):Looks M h (typeOf (.ref a)) (.ref C):=by
 obtain⟨o,h1,h2⟩:=p
 exact h2▸(Looks.ld h1).andThen .now
theorem GE{prog:Program}{w:World}{A:Around}{R:Result→Shared→Prop}{s:Shared}{tp:Value}(Z:ExCls K C)(X:K.In s.heap)(I:fM a C s.heap)(h:R (.ok (.ret (.ref C))) s):
  codeAny (model prog w) A (.call (.builtin "getset_descriptor.__get__") ⟨[.builtin "object.__class__",.ref a,tp],[]⟩) R s:=by
 obtain⟨hh,g,dr,t,os⟩:=s
 have L0:=lH (M:=model prog w) I
 have L1:=looks_mroIn (M:=model prog w) X Z.mo
 refine codeAny_call_builtin KF.slot_gs.plain KF.entry_gs (KF.slot_gs.check _ _ _ _ _ _ _ _ KF.type_class (KF.args_gs _ _ _) ?_)
 unfold Builtin.«getset_descriptor.__get__» descrGet
 rw[dga_obj]
 refine zz0 (zz1 ?_)
 unfold descrGetter descrCheckInstance descrNameAndClass isInstance
 simp only[KF.owner_class]
 repeat lk
 refine⟨Code.quiet_builtin _ (by decide+kernel),codeAny_builtin KF.entry_class ?_⟩
 unfold Builtin.«object.__class__» shownTypeOf
 repeat lk
 exact h
theorem BW{prog:Program}{w:World}{A:Around}{E:Value→Shared→Prop}{Q:Fin→Shared→Prop}{s:Shared}(Z:ExCls K C)(X:K.In s.heap)(I:fM a C s.heap)(h:Q (.done (.ret (.ref C))) s):
  wpAny (model prog w) A (Builtin.«object.__getattribute__» ⟨[.ref a,.str "__class__" tk],[]⟩) Q E s:=by
 obtain⟨hh,g,dr,t,os⟩:=s
 have L0:=lH (M:=model prog w) I
 have L1:=looks_findIn (M:=model prog w) X Z.ca
 have hT5:(⟨hh,g,dr,t,os⟩:Shared).TypeIs (.builtin "object.__class__") "getset_descriptor":=F.typeOf_object_class
 have f5:=F.typeOf_object_class
 have f6:=F.slot_gs_get.lookup
 have f7:=F.slot_gs_set.lookup
 repeat (any_goals (first |assumption |with_reducible refine L0.at ?_ |with_reducible refine L1.at ?_ |wp_step))
 refine GE Z X I ?_
 repeat (any_goals (first |assumption |wp_step))
theorem BX{A:Around}{E:Value→Shared→Prop}{nameV:Value}{Q:Unit→Shared→Prop}{s:Shared}(Z:ExCls K C)(X:K.In s.heap)(I:fM a C s.heap)(hq:Q () s):wpAny M A (checkBuiltinCall "BaseException.__getattribute__" ⟨[.ref a,nameV],[]⟩) Q E s:=by
 obtain⟨hh,g,dr,t,os⟩:=s
 have L0:=lH (M:=M) I
 have L1:=looks_mroIn (M:=M) X Z.mb
 have hk:builtinKind "BaseException.__getattribute__"=some .slot:=by decide+kernel
 have hsplit:splitId "BaseException.__getattribute__"=some ("BaseException","__getattribute__"):=by decide+kernel
 have ha:=F.args_bexc_ga (.ref a) nameV
 simp only[checkBuiltinCall,hk,hsplit]
 refine zz0 ?_
 unfold isInstance
 repeat (first |with_reducible refine L0.at ?_ |with_reducible refine L1.at ?_ |wp_step)
 exact hq
theorem JD{prog:Program}{w:World}{A:Around}{E:Value→Shared→Prop}{s:Shared}{fill expr:Bool}(Z:ExCls K C)(X:K.In s.heap)(I:fM a C s.heap)(hq:Q (.ref C) s):
  wpAny (model prog w) A (getAttrBy (.ref a) (.str "__class__" tk) fill expr) Q E s:=by
 obtain⟨hh,g,dr,t,os⟩:=s
 have L0:=lH (M:=model prog w) I
 have L1:=looks_findIn (M:=model prog w) X Z.ga
 have L2:=looks_findIn (M:=model prog w) X Z.gt
 have f3:=F.attr_ValueError.ga.bind (.ref a)
 have hx0:(expr&&onTheHeap (Value.builtin "BaseException.__getattribute__"))=false:=by cases expr <;> rfl
 have hx2:(Value.builtin "BaseException.__getattribute__" == Value.builtin "object.__getattribute__")=false:=by decide+kernel
 have hx1:(onTheHeap (Value.ref C)&&Value.builtin "BaseException.__getattribute__" == Value.builtin "object.__getattribute__")=false:=by rw[hx2];rfl
 repeat (any_goals (first |assumption |with_reducible refine L0.at ?_ |with_reducible refine L1.at ?_ |with_reducible refine L2.at ?_ |wp_step))
 refine codeAny_call_builtin F.attr_ValueError.ga.plain F.entry_bexc_ga (BX Z X I (BW Z X I ?_))
 repeat (any_goals (first |assumption |wp_step))
theorem D7{prog:Program}{w:World}{A:Around}{E:Value→Shared→Prop}{Q:Option Value→Shared→Prop}{s:Shared}(Z:ExCls K C)(X:K.In s.heap)(I:fM a C s.heap)(hq:Q (some (.ref C)) {s with toks:=s.toks+1}):
  wpAny (model prog w) A (getAttr? (.ref a) "__class__") Q E s:=by
 obtain⟨hh,g,dr,t,os⟩:=s
 unfold getAttr?
 repeat (any_goals (first |assumption |with_reducible apply JD (s:=⟨hh,g,dr,t+1,os⟩) Z X I |wp_step))
theorem D8(Z:ExCls K C):KitX K (.ref a) (.ref C) (fM a C) where
 ty:=fun _ _ _ I=>lH I
 it:=fun _ _ X _=>by
  obtain⟨cdD,hcD⟩:=Z.cls
  unfold clsIn at hcD
  split at hcD
  ·rename_i c' d' cd' sl' ho
   intro A' Q' E' s' k q
   unfold isType loadHead
   exact zz0 (wpAny_loadPart (k _ _ (X _ _ ho)) (zz1 q))
  ·cases hcD
 ne:=fun h tp dd its n sl X htp=>by
  obtain⟨cdD,hcD⟩:=Z.cls
  refine Bool.eq_false_iff.mpr fun q=>?_
  have e:C=tp:=Value.ref.inj (beq_iff_eq.mp q)
  subst e
  unfold clsIn at hcD
  split at hcD
  ·rename_i c' d' cd' sl' ho
   have z:=(X _ _ ho).symm.trans htp
   cases z
  ·cases hcD
 ca:=fun X I k=>D7 Z X I k
end
end PL
namespace PL
open PySem PySem.Spec PyProof.Rows L2 Nh
def CtxV(v:Value)(e:Addr)(h:Heap):Prop:=∃o vs,h.get? e=some o∧o.data=.fields vs∧vs[2]? =some v
abbrev MW(e:Addr)(h:Heap):Prop:=CtxV .none e h
def Av:List (Addr×Obj)→Value
 |[]=>.none
 |p::_=>.ref p.1
def ChainP:List (Addr×Obj)→Prop
 |[]=>True
 |p::ps=>(∃ws,p.2.data=.fields ws∧ws[2]? =some (Av ps))∧(∀q∈ps,q.1≠p.1)∧ChainP ps
def CtxN(Hf:Hp)(base:Heap)(e:Addr)(h:Heap):Prop:=∃ps,ChainP ps∧CtxV (Av ps) e h∧(∀p∈ps,base.get? p.1=some p.2∧Hf p.1=none)∧∀p∈ps,p.1≠e
theorem CtxN.zero{base:Heap}{e:Addr}(c:MW e h):CtxN Hf base e h:=⟨[],trivial,c,fun _ z=>(nomatch z),fun _ z=>(nomatch z)⟩
def K2(f:Obj→Obj):Prop:=∀o vs,o.data=.fields vs→∃ws,(f o).data=.fields ws∧ws[2]? =vs[2]?
def Tm{α:Type}:Sem α→Prop
 |.pure _=>True
 |.raise _=>True
 |.unsupported _=>True
 |.rule _ k=>Tm (k ())
 |.at _ k=>Tm (k ())
 |.load _ _ k=>∀o,Tm (k o)
 |.update _ _ f k=>K2 f∧Tm (k ())
 |.loadIfAlive _ k=>∀o,Tm (k o)
 |.point _ k=>Tm (k ())
 |.alloc _ k=>∀a,Tm (k a)
 |.fresh k=>∀t,Tm (k t)
 |.handled _ k=>∀x,Tm (k x)
 |.stack k=>∀x,Tm (k x)
 |_=>False
theorem Tm.bind{k:α→Sem β}(hk:∀a,Tm (k a)):∀{t:Sem α},Tm t→Tm (t >>= k)
 |.pure a,_=>hk a
 |.raise _,_=>trivial
 |.unsupported _,_=>trivial
 |.rule _ f,h=>Tm.bind hk (t:=f ()) h
 |.at _ f,h=>Tm.bind hk (t:=f ()) h
 |.load _ _ f,h=>fun o=>Tm.bind hk (t:=f o) (h o)
 |.update _ _ g f,h=>⟨h.1,Tm.bind hk (t:=f ()) h.2⟩
 |.loadIfAlive _ f,h=>fun o=>Tm.bind hk (t:=f o) (h o)
 |.point _ f,h=>Tm.bind hk (t:=f ()) h
 |.alloc _ f,h=>fun a=>Tm.bind hk (t:=f a) (h a)
 |.fresh f,h=>fun a=>Tm.bind hk (t:=f a) (h a)
 |.handled _ f,h=>fun a=>Tm.bind hk (t:=f a) (h a)
 |.stack f,h=>fun a=>Tm.bind hk (t:=f a) (h a)
 |.finish _,h=>h.elim
 |.register _ _,h=>h.elim
 |.ask _,h=>h.elim
 |.choose _ _ _,h=>h.elim
 |.os _ _ _,h=>h.elim
 |.call _ _ _ _ _,h=>h.elim
 |.newGen _ _,h=>h.elim
 |.genState _ _,h=>h.elim
 |.resume _ _ _ _,h=>h.elim
 |.yield _ _ _ _,h=>h.elim
 |.fork _ _,h=>h.elim
 |.thread _,h=>h.elim
 |.await _ _ _ _ _,h=>h.elim
theorem CtxV.upd{v:Value}{e:Addr}{f:Obj→Obj}(x:CtxV v e h)(k:K2 f):CtxV v e (h.update a f):=by
 obtain⟨o,vs,ho,hd,h2⟩:=x
 by_cases q:a=e
 ·subst q
  obtain⟨ws,hw,e2⟩:=k o vs hd
  exact⟨_,ws,Heap.get?_update_self f ho (Obj.isFreed_of_fields hw),hw,e2.trans h2⟩
 ·exact⟨o,vs,(FE _ _ q).trans ho,hd,h2⟩
theorem j8{M:Model}{Γ:PySem.Ctx}{Q:α→Pos→Shared→Prop}{E:Value→Pos→Shared→Prop}{v:Value}{e:Addr}:∀{t:Sem α} {p:Pos} {s:Shared},Tm t→CtxV v e s.heap→Sem.wp M Γ t Q E p s→Sem.wp M Γ t (fun a p s'=>Q a p s'∧CtxV v e s'.heap) (fun x p s'=>E x p s'∧CtxV v e s'.heap) p s
 |.pure a,p,s,_,c,h=>by rw[Sem.wp]at h ⊢;exact⟨h,c⟩
 |.raise _,p,s,_,c,h=>by rw[Sem.wp]at h ⊢;exact⟨h,c⟩
 |.unsupported _,p,s,_,c,h=>by rw[Sem.wp]at h;exact h.elim
 |.rule _ f,p,s,t,c,h=>by rw[Sem.wp]at h ⊢;exact j8 (t:=f ()) t c h
 |.at _ f,p,s,t,c,h=>by rw[Sem.wp]at h ⊢;exact j8 (t:=f ()) t c h
 |.load _ _ f,p,s,t,c,h=>by rw[Sem.wp]at h ⊢;obtain⟨o,ho,h⟩:=h;exact⟨o,ho,j8 (t:=f o) (t o) c h⟩
 |.update _ _ g f,p,s,t,c,h=>by rw[Sem.wp]at h ⊢;exact⟨h.1,j8 (t:=f ()) t.2 (c.upd t.1) h.2⟩
 |.loadIfAlive _ f,p,s,t,c,h=>by rw[Sem.wp]at h ⊢;exact j8 (t:=f _) (t _) c h
 |.point _ f,p,s,t,c,h=>by rw[Sem.wp]at h ⊢;exact j8 (t:=f ()) t c h
 |.alloc _ f,p,s,t,c,h=>by rw[Sem.wp]at h ⊢;exact j8 (t:=f _) (t _) (let ⟨o,vs,ho,r⟩:=c;⟨o,vs,gD _ ho,r⟩) h
 |.fresh f,p,s,t,c,h=>by rw[Sem.wp]at h ⊢;exact j8 (t:=f _) (t _) c h
 |.handled _ f,p,s,t,c,h=>by rw[Sem.wp]at h ⊢;exact j8 (t:=f _) (t _) c h
 |.stack f,p,s,t,c,h=>by rw[Sem.wp]at h ⊢;exact j8 (t:=f _) (t _) c h
 |.finish _,_,_,h,_,_=>h.elim
 |.register _ _,_,_,h,_,_=>h.elim
 |.ask _,_,_,h,_,_=>h.elim
 |.choose _ _ _,_,_,h,_,_=>h.elim
 |.os _ _ _,_,_,h,_,_=>h.elim
 |.call _ _ _ _ _,_,_,h,_,_=>h.elim
 |.newGen _ _,_,_,h,_,_=>h.elim
 |.genState _ _,_,_,h,_,_=>h.elim
 |.resume _ _ _ _,_,_,h,_,_=>h.elim
 |.yield _ _ _ _,_,_,h,_,_=>h.elim
 |.fork _ _,_,_,h,_,_=>h.elim
 |.thread _,_,_,h,_,_=>h.elim
 |.await _ _ _ _ _,_,_,h,_,_=>h.elim
theorem D9{M:Model}{A:Around}{Q:α→Shared→Prop}{E:Value→Shared→Prop}{v:Value}{e:Addr}{t:Sem α}{s:Shared}(T:Tm t)(c:CtxV v e s.heap)(h:wpAny M A t Q E s):wpAny M A t (fun a s'=>Q a s'∧CtxV v e s'.heap) (fun x s'=>E x s'∧CtxV v e s'.heap) s:=fun Γ p hΓ=>j8 T c (h Γ p hΓ)
theorem CtxN.upd{base:Heap}{e:Addr}{f:Obj→Obj}(x:CtxN Hf base e h)(k:K2 f):CtxN Hf base e (h.update a f):=let ⟨ps,c,v,r⟩:=x;⟨ps,c,v.upd k,r⟩
theorem BY(v:Value):Tm (fieldsOf v):=by
 unfold fieldsOf
 split
 ·refine Tm.bind (fun o=>?_) (fun o=>trivial)
  split <;> trivial
 ·trivial
theorem mF(v:Value)(i:Nat):Tm (field v i):=by
 unfold field
 refine Tm.bind (fun vs=>?_) (BY v)
 split <;> trivial
theorem yN{i:Nat}{x:Value}(h:i≠2):K2 (Obj.mapFields (·.setIfInBounds i x)):=fun o vs hd=>⟨_,Obj.data_mapFields hd _,by rw[Array.getElem?_setIfInBounds_ne h]⟩
theorem yO(v:Value){i:Nat}(x:Value)(h:i≠2):Tm (setField v i x):=by
 unfold setField
 split
 ·unfold updateField
  refine Tm.bind (fun o=>?_) (fun o=>trivial)
  split
  ·split
   ·exact⟨yN h,trivial⟩
   ·trivial
  ·trivial
 ·trivial
theorem BZ(env:Env)(outer:List Env):Tm (behindIsImport env outer):=by
 unfold behindIsImport
 split
 ·trivial
 ·split
  ·trivial
  ·refine Tm.bind (fun a=>?_) (mF _ _)
   trivial
theorem D_:Tm underTheClaimsCaller:=by
 unfold underTheClaimsCaller
 refine Tm.bind (fun a=>?_) (fun a=>?_)
 ·trivial
 ·trivial
theorem GF(env:Env)(b:Bool)(outer:List Env):Tm (keptBack env b outer):=by
 cases outer with
 |nil=>
  show Tm (if _ then _ else _)
  by_cases h:(env.scope.isGenerator||env.scope.isCoroutine)=true
  ·rw[if_pos h];trivial
  ·rw[if_neg h]
   refine Tm.bind (fun a=>?_) D_
   trivial
 |cons c r=>trivial
theorem wm:∀l:List Env,Tm (readyFrames l)
 |[]=>trivial
 |env::outer=>by
  unfold readyFrames
  split
  ·refine Tm.bind (fun o=>?_) (fun o=>?_)
   ·split
    ·trivial
    ·refine Tm.bind (fun _=>?_) (BZ _ _)
     refine Tm.bind (fun _=>?_) (GF _ _ _)
     refine Tm.bind (fun _=>wm outer) ?_
     exact⟨fun o vs hd=>⟨vs,hd,rfl⟩,trivial⟩
   ·trivial
  ·trivial
theorem yP(env:Env):Tm (PySem.frameOf env):=by
 unfold PySem.frameOf
 refine Tm.bind (fun l=>?_) ?_
 ·refine Tm.bind (fun o=>?_) ?_
  ·split <;> trivial
  ·generalize List.dropWhile _ _=l
   cases l with
   |nil=>trivial
   |cons e r=>
    refine Tm.bind (fun _=>?_) (wm _)
    trivial
 ·refine Tm.bind (fun a=>?_) (fun a=>?_)
  ·trivial
  ·trivial
theorem Ea(f:Addr)(b:Bool):Tm (entryPlaceOf f b):=by
 unfold entryPlaceOf
 refine Tm.bind (fun l=>?_) (fun _=>?_)
 ·split <;> trivial
 ·trivial
theorem JE(ty:String)(vs:List Value):Tm (newFields ty vs):=by
 show Tm (if _ then _ else _)
 split
 ·trivial
 ·refine Tm.bind (fun _=>?_) (fun _=>?_)
  ·trivial
  ·trivial
theorem pi(e:Value)(env:Env):Tm (noteFrame e env):=by
 have last:∀(hd:Value) (f:Addr),Tm (do setField e 1 (←EntryCells.newEntry hd (←PySem.frameOf env) .none (rawInt f) .none (←entryPlaceOf f (hd !=.none)))):=fun hd f=>by
  refine Tm.bind (fun fr=>?_) (yP _)
  refine Tm.bind (fun pl=>?_) (Ea _ _)
  refine Tm.bind (fun en=>?_) (JE _ _)
  exact yO _ _ (by decide)
 unfold noteFrame
 split
 ·refine Tm.bind (fun hd=>?_) (mF _ _)
  split
  ·refine Tm.bind (fun w=>?_) (mF _ _)
   split
   ·trivial
   ·refine Tm.bind (fun _=>last _ _) (yO _ _ (by decide))
  ·exact last _ _
 ·trivial
theorem nI(e:Value):Tm (setFlight e none):=by
 unfold setFlight
 refine Tm.bind (fun tb=>?_) (mF _ _)
 split
 ·exact yO _ _ (by decide)
 ·trivial
theorem p6(env:Env)(e:Value):Tm (leaving env e):=by
 unfold leaving
 exact Tm.bind (fun _=>nI e) (pi e env)
def FlyC(Hf:Hp)(base:Heap)(l:List Env)(e:Addr)(cls a0:Value)(h:Heap):Prop:=base.StaysIn h∧base.get? e=none∧h.FunFrames base l∧h.TracedW base e cls a0∧CtxN Hf base e h
def HeldC(Hf:Hp)(base:Heap)(l:List Env)(e:Addr)(cls a0:Value)(L:Addr)(h:Heap):Prop:=base.StaysIn h∧base.get? e=none∧h.FunFrames base l∧h.TracedAtW base e cls a0 (rawInt L)∧CtxN Hf base e h
section
variable {M:Model} {A:Around} {E:Value→Shared→Prop} {s:Shared} {Hf:Hp} {base:Heap} {env:Env} {outer l:List Env} {L e:Addr} {cls a0:Value} {Q:Unit→Shared→Prop} {h:Heap}
theorem FlyC.to(x:FlyC Hf base l e cls a0 h):Heap.FlyingW base l e cls a0 h:=⟨x.1,x.2.1,x.2.2.1,x.2.2.2.1⟩
theorem FlyC.of(x:Heap.FlyingW base l e cls a0 h)(c:CtxN Hf base e h):FlyC Hf base l e cls a0 h:=⟨x.1,x.2.1,x.2.2.1,x.2.2.2,c⟩
theorem HeldC.to(x:HeldC Hf base l e cls a0 L h):Heap.HeldW base l e cls a0 L h:=⟨x.1,x.2.1,x.2.2.1,x.2.2.2.1⟩
theorem HeldC.of(x:Heap.HeldW base l e cls a0 L h)(c:CtxN Hf base e h):HeldC Hf base l e cls a0 L h:=⟨x.1,x.2.1,x.2.2.1,x.2.2.2,c⟩
theorem FlyC.there(x:FlyC Hf base l e cls a0 h):∃ob,h.get? e=some ob∧ob.cls=cls:=x.to.there
theorem FlyC.first(x:FlyC Hf base l e cls a0 h):∃oe vs,h.get? e=some oe∧oe.cls=cls∧oe.data=.fields vs∧vs[0]? =some a0:=x.to.first
theorem p7{t:Sem Unit}{P:Heap→Prop}(T:Tm t)(c:CtxN Hf base e s.heap)(k:∀{Q:Unit→Shared→Prop},(∀h',P h'→Q () {s with heap:=h'})→wpAny M A t Q E s)(hQ:∀h',P h'→CtxN Hf base e h'→Q () {s with heap:=h'}):wpAny M A t Q E s:=by
 obtain⟨ps,cp,c,r1,r2⟩:=c
 exact zz2 (D9 T c (k (Q:=fun _ s'=>∃h',P h'∧s'={s with heap:=h'}) fun h' p=>⟨h',p,rfl⟩)) (fun _ s' ⟨⟨h',p,z⟩,c'⟩=>by subst z;exact hQ h' p ⟨ps,cp,c',r1,r2⟩) fun _ _ z=>z.1
theorem yQ(hfr:A.frames=some (env::outer))(hf:env.frame=some L)(hfl:FlyC Hf base (env::outer) e cls a0 s.heap)(hQ:∀h',FlyC Hf base outer e cls a0 h'→s.heap.UpToSlots h'→Q () {s with heap:=h'}):wpAny M A (leaving env (.ref e)) Q E s:=
 p7 (P:=fun h'=>Heap.FlyingW base outer e cls a0 h'∧s.heap.UpToSlots h') (p6 _ _) hfl.2.2.2.2 (fun k=>wpAny_leaves_onW hfr hf hfl.to fun h' a b=>k h' ⟨a,b⟩) fun h' p c=>hQ h' (.of p.1 c) p.2
theorem kN(hfr:A.frames=some (env::outer))(hf:env.frame=some L)(hfl:FlyC Hf base (env::outer) e cls a0 s.heap)(hQ:∀h',HeldC Hf base (env::outer) e cls a0 L h'→s.heap.UpToSlots h'→Q () {s with heap:=h'}):wpAny M A (noteFrame (.ref e) env) Q E s:=
 p7 (P:=fun h'=>Heap.HeldW base (env::outer) e cls a0 L h'∧s.heap.UpToSlots h') (pi _ _) hfl.2.2.2.2 (fun k=>wpAny_looks_onW hfr hf hfl.to fun h' a b=>k h' ⟨a,b⟩) fun h' p c=>hQ h' (.of p.1 c) p.2
theorem yR(hh:HeldC Hf base l e cls a0 L s.heap)(hQ:∀h',FlyC Hf base l e cls a0 h'→s.heap.UpToSlots h'→Q () {s with heap:=h'}):wpAny M A (setFlight (.ref e) none) Q E s:=
 p7 (P:=fun h'=>Heap.FlyingW base l e cls a0 h'∧s.heap.UpToSlots h') (nI _) hh.2.2.2.2 (fun k=>wpAny_landsW hh.to fun h' a b=>k h' ⟨a,b⟩) fun h' p c=>hQ h' (.of p.1 c) p.2
theorem mG(hh:FlyC Hf base l e cls a0 s.heap)(hQ:∀h',FlyC Hf base l e cls a0 h'→s.heap.UpToSlots h'→Q () {s with heap:=h'}):wpAny M A (setFlight (.ref e) none) Q E s:=
 p7 (P:=fun h'=>Heap.FlyingW base l e cls a0 h'∧s.heap.UpToSlots h') (nI _) hh.2.2.2.2 (fun k=>lands_againW hh.to fun h' a b=>k h' ⟨a,b⟩) fun h' p c=>hQ h' (.of p.1 c) p.2
theorem wn(hx:Heap.MadeExcOf h h' e cls args):CtxN Hf base e h':=let ⟨_,he,_⟩:=hx.there; .zero ⟨_,_,he,rfl,rfl⟩
theorem tV(hfr:A.frames=some (env::outer))(hf:env.frame=some L)(hkb:base.StaysIn h)(hl:h.FunFrames base (env::outer))(hx:Heap.MadeExcOf h s.heap e cls args)
  (hQ:∀h' t,FlyC Hf base outer e cls (.ref t) h'→h'.TupAt t args→base.get? t=none→s.heap.UpToSlots h'→Q () {s with heap:=h'}):wpAny M A (leaving env (.ref e)) Q E s:=
 p7 (P:=fun h'=>∃t,Heap.FlyingW base outer e cls (.ref t) h'∧h'.TupAt t args∧base.get? t=none∧s.heap.UpToSlots h') (p6 _ _) (wn hx) (fun k=>wpAny_leaves_madeW hfr hf hkb hl hx fun h' t a b c d=>k h' ⟨t,a,b,c,d⟩) fun h' ⟨t,a,b,c,d⟩ z=>hQ h' t (.of a z) b c d
end
end PL
namespace PL
open PySem PySem.Spec PyProof.Rows L2 Nh
theorem qT:entryFor table "proto.unchain"=some Builtin.«proto.unchain»:=entryFor_of_fast (by kernel_rfl)
section
variable {prog:Program} {w:World} {A:Around} {E:Value→Shared→Prop} {s:Shared}
theorem wo{id:String}{args:Args}{b:Builtin}{R:Result→Shared→Prop}(hb:entryFor table id=some b)
  (h:wpAny (model prog w) (A.under (.builtin id args)) (b args) (fun fin s'=>match fin with |.done f=>R (.ok f) s' |.again c'=>c'.quiet=true∧codeAny (model prog w) A c' R s') (fun e s'=>R (.error e) s') s):codeAny (model prog w) A (.builtin id args) R s:=by
 refine codeAny_of_tree ?_
 show wpAny _ _ (match entryFor table id with |some b=>b args |none=>unsupported ((withoutEnding? id "#data").getD id)) _ _ s
 rw[hb]
 exact h
def LA(h:Heap)(p:Addr×Obj)(v:Value):Prop:=h.get? p.1=some p.2∧∃ws,p.2.data=.fields ws∧ws[2]? =some v
theorem ChainP.node(L:List (Addr×Obj)):∀(k:Nat) (p:Addr×Obj),ChainP L→(∀q∈L,h.get? q.1=some q.2)→L[k]? =some p→LA h p (Av (L.drop (k+1))):=by
 induction L with
 |nil=>intro k p _ _ e;rw[List.getElem?_nil]at e;cases e
 |cons q L ih=>
  intro k p c g e
  cases k with
  |zero=>
   rw[List.getElem?_cons_zero]at e
   injection e with e
   subst e
   exact⟨g q (gE ..),c.1⟩
  |succ k=>
   rw[List.getElem?_cons_succ]at e
   exact ih k p c.2.2 (fun r hr=>g r (gQ _ hr)) e
theorem ChainP.apart(L:List (Addr×Obj)):∀(i j:Nat) (p q:Addr×Obj),ChainP L→i < j→L[i]? =some p→L[j]? =some q→q.1≠p.1:=by
 induction L with
 |nil=>intro i j p q _ _ e;rw[List.getElem?_nil]at e;cases e
 |cons r L ih=>
  intro i j p q c l e1 e2
  cases j with
  |zero=>omega
  |succ j=>
   rw[List.getElem?_cons_succ]at e2
   cases i with
   |zero=>
    rw[List.getElem?_cons_zero]at e1
    injection e1 with e1
    subst e1
    exact c.2.1 q (List.mem_of_getElem? e2)
   |succ i=>
    rw[List.getElem?_cons_succ]at e1
    exact ih i j p q c.2.2 (by omega) e1 e2
theorem tW{L:List (Addr×Obj)}{e:Value}{R:Result→Shared→Prop}(c:ChainP L)(g:∀q∈L,s.heap.get? q.1=some q.2)(hne:∀q∈L,Value.ref q.1≠e)(hR:R (.ok (.ret .none)) s):
  ∀(n i j:Nat) (t:Bool) (o sl:Addr×Obj),L.length=i+n→L[i]? =some o→L[j]? =some sl→j≤i→(t=true→j < i)→codeAny (model prog w) A (.builtin "proto.unchain" ⟨[e,.ref o.1,.ref sl.1,.bool t],[]⟩) R s:=by
 intro n
 induction n with
 |zero=>
  intro i j t o sl hl ho _ _ _
  rw[List.getElem?_eq_none (by omega)]at ho
  cases ho
 |succ n ih=>
  intro i j t o sl hl ho hs ji ht
  obtain⟨g1,ws,hd,h2⟩:=ChainP.node L i o c g ho
  refine wo qT ?_
  show wpAny _ _ (field (.ref o.1) 2 >>= _) _ _ s
  cases eq:L[i+1]? with
  |none=>
   have:L.drop (i+1)=[]:=List.drop_eq_nil_of_le (List.getElem?_eq_none_iff.mp eq)
   rw[this]at h2
   exact zz0 (wpAny_field g1 hd h2 (zz1 hR))
  |some q=>
   have hd':L.drop (i+1)=q::L.drop (i+1+1):=by
    have hlt:=(Zav.mp eq).1
    rw[FK hlt]
    congr 1
    exact(Zav.mp eq).2
   rw[hd']at h2
   have h2:ws[2]? =some (.ref q.1):=h2
   refine zz0 (wpAny_field g1 hd h2 ?_)
   have n1:((Value.ref q.1 == Value.none)=false):=rfl
   have n2:(Value.ref q.1 == e)=false:=beq_eq_false_iff_ne.mpr (hne q (List.mem_of_getElem? eq))
   have n3:(Value.ref q.1 == Value.ref sl.1)=false:=beq_eq_false_iff_ne.mpr fun z=>ChainP.apart L j (i+1) sl q c (Nat.lt_succ_of_le ji) hs eq (Value.ref.inj z)
   show wpAny _ _ (if (Value.ref q.1 == Value.none)=true then _ else _) _ _ s
   simp only[n1,n2,n3,iy]
   cases t with
   |false=>
    refine zz0 (zz1 ?_)
    exact zz1 ⟨Code.quiet_builtin _ (by decide+kernel),ih (i+1) j true q sl (by omega) eq hs (by omega) fun _=>by omega⟩
   |true=>
    have jl:=ht rfl
    obtain⟨g3,ws3,LB,h3⟩:=ChainP.node L j sl c g hs
    obtain⟨nx,hnx⟩:∃nx,L[j+1]? =some nx:=⟨_,vH (show j+1 < L.length by have:=(Zav.mp eq).1;omega)⟩
    have hd4:Av (L.drop (j+1))=.ref nx.1:=by
     have hlt:=(Zav.mp hnx).1
     rw[FK hlt,←(Zav.mp hnx).2]
     rfl
    rw[hd4]at h3
    refine zz0 (wpAny_field g3 LB h3 ?_)
    exact zz1 ⟨Code.quiet_builtin _ (by decide+kernel),ih (i+1) (j+1) false q nx (by omega) eq hnx (by omega) fun z=>(nomatch z)⟩
theorem Eb{L:List (Addr×Obj)}{e:Value}{p:Addr×Obj}(c:ChainP (p::L))(g:∀q∈p::L,s.heap.get? q.1=some q.2)(hne:∀q∈p::L,Value.ref q.1≠e)(hQ:Q .none s):
  wpAny (model prog w) A (runValue (.builtin "proto.unchain" ⟨[e,.ref p.1,.ref p.1,.bool false],[]⟩)) Q E s:=
 wpAny_runValue (tW c g hne hQ (L.length+1) 0 0 false p p (by simp) rfl rfl (fz _) fun z=>(nomatch z))
end
end PL
namespace PL
open PySem PySem.Spec PyProof.Rows L2 Nh
structure UnB (fs:List Addr) (H H':Hp) (h B h':Heap):Prop where
 keep:∀b o,h.get? b=some o→H b=none→b∉fs→B.get? b=some o
 slot:∀b o,h.get? b=some o→H b=none→b∈fs→∃sl,h'.get? b=some {o with slots:=sl}
 free:∀b o,h.get? b=some o→H b=none→H' b=none
 there:∀b o,h.get? b=some o→b∉fs→∃o',B.get? b=some o'
 tups:∀b xs,H b=some (.tup xs)→H' b=some (.tup xs)
 frzs:∀b o u,H b=some (.frz o u)→H' b=some (.frz o u)
 tbls:∀b ps,H b=some (.tbl ps)→H' b=some (.tbl ps)
theorem UnB.un{fs:List Addr}{H:Hp}{B:Heap}(u:UnB fs H H' h B h')(st:B.StaysIn h')(hf:∀b∈fs,H b=none):Un fs [] H H' h h':=
 ⟨fun b o e n hb _=>st b o (u.keep b o e n hb),fun b o e n hb _=>u.slot b o e n hb,fun b o e n _=>u.free b o e n,fun b o e _=>by
  by_cases hb:b∈fs
  ·obtain⟨sl,z⟩:=u.slot b o e (hf b hb) hb
   exact⟨_,z⟩
  ·obtain⟨o',z⟩:=u.there b o e hb
   exact⟨o',st b o' z⟩,u.tups,u.frzs,u.tbls⟩
theorem UnB.on{l:List Env}{H:Hp}{B:Heap}(u:UnB (iz l) H H' h B h')(ff:h'.FunFrames B l)(k:h'.UpToSlots h2):UnB (iz l) H H' h B h2:=
 ⟨u.keep,fun b o e n hb=>by
  obtain⟨sl,z⟩:=u.slot b o e n hb
  obtain⟨_,o',ho',hd⟩:=ff.mem hb
  rw[z]at ho'
  cases ho'
  obtain⟨sl2,z2⟩:=k b _ z hd
  exact⟨sl2,z2⟩,u.free,u.there,u.tups,u.frzs,u.tbls⟩
theorem UnB.out{σ:L2.St}{H:Hp}{s:Shared}{B:Heap}(I:Inv X pins σ H s)(hx:X.ex=[])(u:UnB (iz X.stack) H H' s.heap B h'):UnB X.fs X.H₀ H' X.s₀.heap B h':=by
 have nx:∀b:Addr,b∉X.ex:=fun b z=>by rw[hx]at z;cases z
 have ne:∀b o,X.s₀.heap.get? b=some o→b≠X.env.locals:=fun b o e=>gS (ma (fP e) I.ok.above)
 have nf:∀b o,X.s₀.heap.get? b=some o→b∉X.fs→b∉iz X.stack:=fun b o e hb z=>(Zag.mp (I.stkSub b z)).elim (ne b o e) hb
 refine⟨fun b o e n hb=>u.keep b o (I.base.keep b o e n hb (nx b)) (I.base.free b o e n (nx b)) (nf b o e hb),fun b o e n hb=>?_,fun b o e n=>?_,fun b o e hb=>?_,fun b xs e=>u.tups b xs (I.base.tups b xs e),fun b o v e=>u.frzs b o v (I.base.frzs b o v e),fun b ps e=>u.tbls b ps (I.base.tbls b ps e)⟩
 ·obtain⟨sl,z⟩:=I.base.slot b o e n hb (nx b)
  have hb':b∈iz X.stack:=by
   rcases I.ok.stk with q |⟨q,hf⟩
   ·rw[q];exact hb
   ·rw[q];unfold iz;rw[List.filterMap_cons,hf];exact gQ _ hb
  obtain⟨sl2,z2⟩:=u.slot b _ z (I.base.free b o e n (nx b)) hb'
  exact⟨sl2,z2⟩
 ·obtain⟨o',z⟩:=I.base.there b o e (nx b)
  exact u.free b o' z (I.base.free b o e n (nx b))
 ·obtain⟨o',z⟩:=I.base.there b o e (nx b)
  exact u.there b o' z (nf b o e hb)
theorem oG{w:World}{H:Hp}{o:HO}(x:ObjOk P w H h a o):∃u,h.get? a=some u:=by
 cases o with
 |lst xs=>obtain⟨_,_,_,_,e⟩:=x;exact⟨_,e⟩
 |tup xs=>obtain⟨_,_,_,o,e,_⟩:=x;exact⟨_,e⟩
 |dK kvs=>obtain⟨_,_,_,_,o,_,_,e,_⟩:=x;exact⟨_,e⟩
 |dT kvs=>obtain⟨_,_,_,_,o,_,_,e,_⟩:=x;exact⟨_,e⟩
 |set S n=>obtain⟨o,_,_,_,e,_⟩:=x;exact⟨_,e⟩
 |ins C dx fs=>obtain⟨_,_,_,e,_⟩:=x;exact⟨_,e⟩
 |own y=>obtain⟨_,e⟩:=x;exact⟨_,e⟩
 |xd fs=>obtain⟨_,⟨_,_,_,e,_⟩,_⟩:=x;exact⟨_,e⟩
 |rng lo hi=>obtain⟨_,_,_,e⟩:=x;exact⟨_,e⟩
 |frz ob u=>obtain⟨e,_⟩:=x;exact⟨_,e⟩
 |tbl q=>obtain⟨_,e,_⟩:=x;exact⟨_,e⟩
 |met f y=>exact⟨_,(show h.get? a=some _ from x)⟩
 |ext φ=>obtain⟨_,⟨_,e⟩,_⟩:=x;exact⟨_,e⟩
def HV(P:Program)(w:World):C8:=fun outer H s E e s'=>∃H' ea C a0 B,e=.ref ea∧E (.ref C) none H'∧s'.os=s.os∧AllBare s'.gens∧FlyC H' B outer ea (.ref C) a0 s'.heap∧HOk P w H' B∧UnB (iz outer) H H' s.heap B s'.heap
def Ec(X:Cx)(C:Addr)(pins:List (Addr×Obj))(σ:L2.St)(H:Hp):Prop:=∀s h' ea vs,Inv X pins σ H s→Heap.MadeExcOf s.heap h' ea (.ref C) vs→X.xe (.ref ea) {s with heap:=h'}
def B3(X:Cx)(C:Addr)(pins:List (Addr×Obj))(σ:L2.St)(H':Hp):Prop:=∀H s ea s' a0 B,Inv X pins σ H s→s'.os=s.os→AllBare s'.gens→FlyC H' B X.stack ea (.ref C) a0 s'.heap→HOk X.prog X.w H' B→UnB (iz X.stack) H H' s.heap B s'.heap→X.xe (.ref ea) s'
def wq(X:Cx)(C:Addr)(pins:List (Addr×Obj))(σ:L2.St)(H':Hp):Prop:=∀H s ea s' a0 B,Inv X pins σ H s→s'.os=s.os→AllBare s'.gens→HeldC H' B X.stack ea (.ref C) a0 X.env.locals s'.heap→HOk X.prog X.w H' B→UnB (iz X.stack) H H' s.heap B s'.heap→X.xe (.ref ea) s'
theorem wt{M:Model}{A:Around}{E:Value→Shared→Prop}{s:Shared}{base:Heap}{env:Env}{outer:List Env}{L e:Addr}{cls:Value}{Q:Unit→Shared→Prop}(hf:env.frame=some L)(hh:HeldC Hf base (env::outer) e cls a0 L s.heap)
  (hQ:∀h',FlyC Hf base outer e cls a0 h'→s.heap.UpToSlots h'→Q () {s with heap:=h'}):wpAny M A (leaving env (.ref e)) Q E s:=by
 unfold leaving
 refine zz0 (wpAny_noteFrame_againW hf hh.2.2.2.1 ?_)
 refine yR hh fun h' hfl k=>?_
 obtain⟨k1,k2,⟨_,_,k3⟩,k4⟩:=hfl
 exact hQ h' ⟨k1,k2,k3,k4⟩ k
section
variable {P:Program} {w:World} {K:Frag} {mg:Str→Option Value} {base:Heap} {N:List Str} {qual:Str} {scope:Scope} {f:Addr} {cd:Value} {A:Around} {outer:List Env} {s:Shared} {H H':Hp} {E:XK} {C:Addr} {pins:List (Addr×Obj)} {σ:L2.St}
theorem GG(hE:E (.ref C) none H'):Ec (je (HV P w) P w K mg base N qual scope f cd A outer s H E) C pins σ H':=by
 intro s1 h' ea vs I hx
 show wpAny (model P w) _ (leaving _ (.ref ea)) _ _ _
 have st:=I.stack
 have hin:∀env∈(je (HV P w) P w K mg base N qual scope f cd A outer s H E).stack,∀b,env.frame=some b→b∈iz (je (HV P w) P w K mg base N qual scope f cd A outer s H E).stack:=fun env he b hb=>List.mem_filterMap.mpr ⟨env,he,hb⟩
 refine tV (Hf:=H') (base:=hideAll s1.heap (iz (je (HV P w) P w K mg base N qual scope f cd A outer s H E).stack)) (h:=s1.heap) I.ok.frames rfl (fun b o q=>of_hideAll _ q) (funFrames_hide st hin) hx fun h2 t x1 x2 x3 x4=>?_
 refine⟨H',ea,C,_,_,rfl,hE,I.os,I.bare,x1,fun a o e=>?_,?_⟩
 ·refine(I.hok a o e).stay (fun b u hb q=>hideAll_get _ q fun z=>?_) (fun _ q=>q) fun _ _ q=>q
  have n:=I.stkFree b z
  rcases hb with rfl |hb
  ·rw[n]at e;cases e
  ·rw[n]at hb;cases hb
 ·refine UnB.out I rfl ⟨fun b o e n hb=>hideAll_get _ e hb,fun b o e n hb=>?_,fun _ _ _ n=>n,fun b o e hb=>⟨o,hideAll_get _ e hb⟩,fun _ _ e=>e,fun _ _ _ e=>e,fun _ _ e=>e⟩
  obtain⟨_,o',ho',hd⟩:=st.mem hb
  rw[e]at ho'
  cases ho'
  exact x4 b o (hx.keeps b o e) hd
theorem JF(hE:E (.ref C) none H'):B3 (je (HV P w) P w K mg base N qual scope f cd A outer s H E) C pins σ H':=by
 intro H1 s1 ea s' a0 B I os bare fl hok u
 show wpAny (model P w) _ (leaving _ (.ref ea)) _ _ _
 refine yQ I.ok.frames rfl fl fun h2 x1 x2=>?_
 exact⟨H',ea,C,a0,B,rfl,hE,os.trans I.os,bare,x1,hok,UnB.out I rfl (u.on fl.2.2.1 x2)⟩
theorem GH(hE:E (.ref C) none H'):wq (je (HV P w) P w K mg base N qual scope f cd A outer s H E) C pins σ H':=by
 intro H1 s1 ea s' a0 B I os bare fl hok u
 show wpAny (model P w) _ (leaving _ (.ref ea)) _ _ _
 refine wt rfl fl fun h2 x1 x2=>?_
 exact⟨H',ea,C,a0,B,rfl,hE,os.trans I.os,bare,x1,hok,UnB.out I rfl (u.on fl.2.2.1 x2)⟩
end
abbrev fO:=List Sl→Option (Str×List Sl)
def Ed(X:Cx)(mk al:Bool)(body:List Stmt)(r:fO):Prop:=∀pins s σ H B E n E',Inv X pins σ H s→Frm X.K B σ H E [] []→r E=some (n,E')→
 (∀pins',(al=false→pins'=pins)→∀σ' C H',nsIn X.K mainGlobals n=some (some (.ref C))→Frm X.K B σ' H' E' [] []→(mk=true→Ec X C pins' σ' H')∧B3 X C pins' σ' H'∧(al=true→wq X C pins' σ' H'))→wpAny (model X.prog X.w) X.A (execs body X.env) (fun _ _=>False) X.xe s
def RX(X:Cx)(mk al:Bool)(st:Stmt)(r:fO):Prop:=∀pins s σ H B E n E',Inv X pins σ H s→Frm X.K B σ H E [] []→r E=some (n,E')→
 (∀pins',(al=false→pins'=pins)→∀σ' C H',nsIn X.K mainGlobals n=some (some (.ref C))→Frm X.K B σ' H' E' [] []→(mk=true→Ec X C pins' σ' H')∧B3 X C pins' σ' H'∧(al=true→wq X C pins' σ' H'))→wpAny (model X.prog X.w) X.A (exec st X.env) (fun _ _=>False) X.xe s
def jQ(g:cI)(r:fO):fO:=fun E=>match g E with
 |some (E',.nx)=>r E'
 |_=>none
def qU(t:jW)(r:fO):fO:=fun E=>match t E with
 |some (true,E')=>r E'
 |_=>none
def pj(r q:fO):fO:=fun E=>match r E with
 |some x=>some x
 |none=>q E
def g7(n:Str):fO:=fun E=>some (n,E)
section
variable {X:Cx} {mk al:Bool} {st:Stmt} {eN a b:List Stmt} {g:cI} {r:fO} {c:Expr} {m:Bool} {t:jW} {pos:Pos}
theorem be(h:RX X mk al st r):Ed X mk al (st::eN) r:=fun pins s σ H B E n E' I fr e k=>
 wpAny_execs_cons (zz2 (h pins s σ H B E n E' I fr e k) (fun _ _ z=>z.elim) fun _ _ z=>z)
theorem j9(h1:SX X.nox st g)(h2:Ed X mk al eN r):Ed X mk al (st::eN) (jQ g r):=fun pins s σ H B E n E' I fr e k=>by
 unfold jQ at e
 split at e
 ·rename_i E1 eg
  have q:=h1 pins s σ H {nx:=fun σ' H'=>Frm X.K B σ' H' E1 [] [],bk:=fun _ _=>False,ct:=fun _ _=>False,rt:=fun _ _=>False} (I.wish _) ⟨B,E,[],[],E1,.nx,fr,rfl,eg,fun σ' H' f=>f⟩
  refine wpAny_execs_cons (zz2 q (fun f s1 z=>?_) fun _ _ z=>z.elim)
  cases f with
  |next=>obtain⟨σ',H',I',fr'⟩:=z;exact h2 pins s1 σ' H' B E1 n E' I'.unwish fr' e k
  |brk=>obtain⟨_,_,_,z⟩:=z;exact z.elim
  |cont=>obtain⟨_,_,_,z⟩:=z;exact z.elim
  |ret u=>obtain⟨_,_,_,_,_,z⟩:=z;exact z.elim
 ·cases e
theorem oH(hc:TX X.nox c m t)(h:Ed X mk al a r):RX X mk al (.If c a b pos) (qU t r):=fun pins s σ H B E n E' I fr e k=>by
 unfold qU at e
 split at e
 ·rename_i E1 et
  have q:=hc pins s σ H (fun bb H1=>bb=true∧Frm X.K B σ H1 E1 [] []) (I.wish _) ⟨B,E,[],[],true,E1,fr,fun _=>Calm.nil rfl,et,fun H1 f=>⟨rfl,f⟩⟩
  refine wpAny_If (zz2 q (fun bb s1 z=>?_) fun _ _ z=>z.elim)
  obtain⟨H1,I1,rfl,fr1⟩:=z
  exact h pins s1 σ H1 B E1 n E' I1.unwish fr1 e k
 ·cases e
theorem se{q:fO}(h1:Ed X mk al a r)(h2:Ed X mk al a q):Ed X mk al a (pj r q):=fun pins s σ H B E n E' I fr e k=>by
 unfold pj at e
 split at e
 ·rename_i x ex
  cases e
  exact h1 pins s σ H B E n E' I fr ex k
 ·exact h2 pins s σ H B E n E' I fr e k
end
end PL
namespace PL
open PySem PySem.Spec PyProof.Rows L2 Nh
abbrev LC:List Value:=[.type "ValueError",.type "Exception",.type "BaseException",.type "object"]
structure XC (K:Frag) (mg:Str→Option Value) (x:Str) (C:Addr):Prop where
 ns:nsIn K mainGlobals x=some (some (.ref C))
 mg:mg x=some (.ref C)
 ex:excIn K C LC "ValueError.__new__"=true
 cls:ExCls K C
theorem Ee{K:Frag}{mg:Str→Option Value}{bmB:List Value}{newId:String}(X:K.In h)(m:mg x=some (.ref C))(q:excIn K C bmB newId=true):OwnCls x C bmB newId mg h:=by
 refine⟨m,?_⟩
 unfold excIn at q
 split at q
 ·rename_i dd cd sl ho
  split at q
  ·rename_i C' bm k0 k1 k2 k3 n k5 hm hs
   simp only[rC,beq_iff_eq,Bool.not_eq_true']at q
   obtain⟨⟨⟨⟨⟨rfl,rfl⟩,hdel⟩,ht⟩,hok⟩,hni⟩:=q
   obtain⟨nm,bs,mro,ns,qn,hd,sn,sub,ab,col,del⟩:=cd
   dsimp only at hm hdel hok hni
   subst hm hdel
   have hsl:sl=#[k0,k1,k2,k3,some (.builtin n),k5]:=by
    obtain⟨l⟩:=sl
    simp only at hs
    rw[hs]
   subst hsl
   exact⟨bm,ns,nm,qn,bs,hd,sn,sub,ab,col,dd,k0,k1,k2,k3,k5,_,X _ _ ho,.of_isNs (PySem.W.isNs_of_in X hok),PySem.W.nsMap_none_of_in X hok hni,PySem.W.tail_of_in X ht⟩
  ·cases q
 ·cases q
section
variable {X:Cx} {mk al:Bool} {x:Str} {C:Addr} {np p cpos pos:Pos}
theorem gj{tx:Str}  (hcalm:X.calm=true) (hg:Gl X x) (Z:XC X.K X.mg x C) (hd:(x == ("__debug__":Str))=false:=by decide)
  (he:starEach [.Constant (.str tx) j p] X.env=[(false,eval (.Constant (.str tx) j p) X.env)]:=by rfl):
  RX X true al (.Raise (some (.Call (.Name x np) [.Constant (.str tx) j p] [] cpos)) none pos) (g7 x):=fun pins s σ H B E n E' I fr e k=>by
 cases e
 obtain⟨tl,N,nm,q,bs,hdct,sn,sub,ab,col,dd,k0,k1,k2,k3,k5,mN,hC,hN,hni,T⟩:=(Ee I.ok.mod.kin Z.mg Z.ex).obj
 refine wpAny_Raise_call_subT (C:=C) (nm:=nm) (q:=q) (N:=N) (bs:=bs) (bm:=tl) (hdct:=hdct) (sn:=sn) (sub:=sub) (ab:=ab) (col:=col) (dd:=dd) (k0:=k0) (k1:=k1) (k2:=k2) (k3:=k3) (k5:=k5)
  PySem.F.excBase_ValueError (mN:=mN) (T.hasType PySem.F.excBase_ValueError.hasBase) (I.ok.hd hcalm) (by rw[he];rfl) hni (fX I hg Z.mg ⟨rfl,?_⟩ hd)
 have q1:=bU (X:=X) (sU (x:=tx) (j:=j) (pos:=p)) d0 he cpos pins s σ H (fun vs H1=>vs=[.str tx]∧H1=H) I ⟨rfl,rfl⟩
 rw[he]at q1 ⊢
 refine Calls.evalArgs_plain (dw q1 fun vs s2 ⟨us,H2,I2,r,eu,eH⟩=>?_)
 subst eu eH
 have fin:=(k pins (fun _=>rfl) σ C H2 Z.ns fr).1 rfl
 exact⟨rfl,by rw[←r.length];exact Nat.le_of_ble_eq_true rfl,I2.bk _ _ hC,hN.keeps I2.bk,T.keeps I2.bk,fun h' ea hm=>fin s2 h' ea vs I2 hm⟩
end
def wu(K:Frag)(r:List PyData→Option Str):Sp:=fun vs H _ E=>∃ds n,r ds=some n∧RpA K H vs ds∧∀C H',nsIn K mainGlobals n=some (some (.ref C))→Same H H'→E (.ref C) none H'
structure OwnR (P:Program) (w:World) (K:Frag) (mg:Str→Option Value) (base:Heap) (k:Nat) (x:Str) (ps:List Str) (sp:Sp):Prop where
 ex:∃(f:Addr) (fd:FuncData),FnOk P w K mg base (HV P w) k f fd ps sp∧Binds K fd ps []∧mg x=some (.ref f)∧keepIn K (.ref f)=true
def ce(r:List PyData→Option Str)(g:nq):fO:=fun E=>(g E).bind fun a=>(fq a.2 a.1).bind fun ds=>(r ds).map fun n=>(n,a.2)
section
variable {X:Cx} {k:Nat} {x:Str} {ps:List Str} {r:List PyData→Option Str} {p pos cpos:Pos} {e:Expr} {es:List Expr} {m:Bool} {g:nq}
theorem nJ(D:OwnR X.prog X.w X.K X.mg X.base k x ps (wu X.K r)) (hr:Room k X.A) (hg:Gl X x) (ha:AX X.nox (e::es) m g) (hdb:(x == ("__debug__":Str))=false) (he:starEach (e::es) X.env=(false,eval e X.env)::starEach es X.env) (hpl:(backTo pos (starEach es X.env)).any (·.1)=false)
   {s:Shared} {σ:L2.St} {H B:Hp}  {n:Str} (I:Inv X pins σ H s) (fr:Frm X.K B σ H E [] []) (ee:ce r g E=some (n,E')) (k:∀C H',nsIn X.K mainGlobals n=some (some (.ref C))→Frm X.K B σ H' E' [] []→B3 X C pins σ H'):
  wpAny (model X.prog X.w) X.A (eval (.Call (.Name x p) (e::es) [] pos) X.env) (fun _ _=>False) X.xe s:=by
 obtain⟨f,fd,F,b,mx,kp⟩:=D.ex
 obtain⟨⟨rs,E1⟩,e1,ee⟩:=Za.mp ee
 obtain⟨ds,e2,ee⟩:=Za.mp ee
 obtain⟨n',e3,ee⟩:=Zab.mp ee
 cases ee
 refine zz6 (fX I hg mx ?_ hdb)
 have q1:=ha pos pins s σ H (fun vs H1=>vs.length=rs.length∧Frm X.K B σ H1 E1 (vs.reverse++[]) (rs.reverse++[])) (I.wish _) ⟨B,E,[],[],rs,E1,fr,fun _=>Calm.nil rfl,e1,fun vs H1 hl f=>⟨hl,f⟩⟩
 refine callWith_K (h₀:=X.base) I.ok.mod.kin kp (zz2 q1 (fun us s1 ⟨vs,H1,I1,rv,hl,F1,A1,fr1⟩=>⟨I1.kIn,?_⟩) fun _ _ z=>z.elim) he hpl
 have I1:=I1.unwish
 obtain⟨r1,A',fr2⟩:=fr1.looks hl e2
 have hlen:(us++[]).length=ps.length:=by
  rw[oR,←rv.length]
  exact F.len vs H1 (fun _ _=>False) (fun _ _ _=>True) ⟨ds,n,e3,r1,fun _ _ _ _=>trivial⟩
 have bd:=b s1 us I1.kIn hlen
 rw[oR]at bd
 refine wpAny_call (codeAny_mono (F.run X.A X.stack s1 H1 ⟨us,[]⟩ us vs (fun _ _=>False) (fun c _ H'=>∃C,c=.ref C∧nsIn X.K mainGlobals n=some (some (.ref C))∧Same H1 H') hr I1.env0 bd rv ⟨ds,n,e3,r1,fun C H' z g=>⟨C,rfl,z,g⟩⟩) fun rr s' hq=>?_)
 cases rr with
 |error er=>
  obtain⟨H',ea,C,a0,B',rfl,⟨C',eC,ns,g⟩,os,bare,fl,hok,u⟩:=hq
  cases eC
  exact k C H' ns ⟨_,_,fr2.grow g⟩ H1 s1 ea s' a0 B' I1 os bare fl hok u
 |ok fl=>
  cases fl with
  |ret u=>obtain⟨_,_,_,_,_,_,_,z⟩:=hq;exact z
  |next=>exact False.elim hq
  |brk=>exact False.elim hq
  |cont=>exact False.elim hq
theorem tX(D:OwnR X.prog X.w X.K X.mg X.base k x ps (wu X.K r)) (hr:Room k X.A) (hg:Gl X x) (ha:AX X.nox (e::es) m g) (hs:swapsWith (.Call (.Name x p) (e::es) [] cpos) none pos.line X.env=pure false:=by rfl) (hdb:(x == ("__debug__":Str))=false:=by decide) (he:starEach (e::es) X.env=(false,eval e X.env)::starEach es X.env:=by rfl) (hpl:(backTo cpos (starEach es X.env)).any (·.1)=false:=by rfl) {al:Bool}:
  RX X mk al (.Expr (.Call (.Name x p) (e::es) [] cpos) pos) (ce r g):=fun pins s σ H B E n E' I fr ee k=>
 wpAny_Expr_any (dw (nJ D hr hg ha hdb he hpl I fr ee fun C H' z f=>(k pins (fun _=>rfl) σ C H' z f).2.1) fun _ _ z=>z.elim) I.quiet hs
theorem Ef(D:OwnR X.prog X.w X.K X.mg X.base k x ps (wu X.K r)) (hr:Room k X.A) (hg:Gl X x) (ha:AX X.nox (e::es) m g) (hdb:(x == ("__debug__":Str))=false:=by decide) (he:starEach (e::es) X.env=(false,eval e X.env)::starEach es X.env:=by rfl) (hpl:(backTo cpos (starEach es X.env)).any (·.1)=false:=by rfl) {al:Bool}:
  RX X mk al (.Return (some (.Call (.Name x p) (e::es) [] cpos)) pos) (ce r g):=fun pins s σ H B E n E' I fr ee k=>
 wpAny_Return_some (dw (nJ D hr hg ha hdb he hpl I fr ee fun C H' z f=>(k pins (fun _=>rfl) σ C H' z f).2.1) fun _ _ z=>z.elim)
end
def wv(k n:Nat)(r:fO):List PyData→Option Str:=fun ds=>if ds.length=k then (r (dW n ds)).map (·.1)else none
theorem qV{w:World}{K:Frag}{mg:Str→Option Value}{base:Heap}{N:List Str}{a:Nat}{r:fO}{al:Bool}(D:Def K mg x st ps)(S:FnScope N ps (ak st))(hpa:ps.length=a)(hNn:N.length=n)(hps:a≤n)
  (hbody:∀(f:Addr) (cdv:Value) (A:Around) (outer:List Env) (s:Shared) (H:Hp) (E:XK),Room k (A.deeper (PyProof.Rows.envOfC x (ak st) s.heap.objs.size f cdv))→
   Ed (je (HV P w) P w K mg base N x (ak st) f cdv A outer s H E) mk al (bE st) r):OwnR P w K mg base (k+1) x ps (wu K (wv a n r)):=by
 subst hpa hNn
 obtain⟨f,fd,F,mx,b⟩:=D.ex
 have kp:=F.kp
 obtain⟨oc,od,kV,doc,pm,an,cdv,ct,osl,rfl,lk,hcd⟩:=F.ex
 refine⟨f,_,Da lk hcd S (fun vs H Q E h=>?_) fun A outer s H vs Q E hr h=>?_,b,mx,kp⟩
 ·obtain⟨ds,n,e,rp,_⟩:=h
  unfold wv at e
  split at e
  ·rename_i hl
   rw[rp.len];exact hl
  ·cases e
 obtain⟨ds,n,e,rp,q⟩:=h
 unfold wv at e
 split at e
 ·rename_i hl
  obtain⟨⟨n',E'⟩,er,z⟩:=Zab.mp e
  cases z
  refine⟨fun D σ H'=>σ=gB N vs∧H'=H,fun pins s1 σ H1 D I z=>?_,rfl,rfl⟩
  obtain⟨rfl,rfl⟩:=z
  refine dw (hbody f cdv A outer s H1 E hr pins s1 _ H1 H1 (dW N.length ds) n' E' I ⟨H1,[],ml rp (by omega)⟩ er fun _ _ σ' C H' ns ⟨F',A',fr'⟩=>?_) fun _ _ z=>z.elim
  have hE:=q C H' ns (fr'.bf.trans fr'.fh)
  exact⟨fun _=>GG hE,JF hE,fun _=>GH hE⟩
 ·cases e
end PL
namespace PL
open PySem PySem.Spec PyProof.Rows L2 Nh
abbrev KC(X:Cx)(ea:Addr):Cx:={X with A:=X.A.mark (some (.ref ea)),calm:=false,xe:=fun _ _=>False}
abbrev hX(X:Cx)(ea:Addr)(oe:Obj)(C:Addr)(ex:List (Addr×Obj)):Cx:={X with A:=X.A.mark (some (.ref ea)),calm:=false,xe:=fun _ _=>False,H₀:=upd X.H₀ ea (.frz oe (.ext (fM ea C))),pn:=ex++X.pn}
def ww(X:Cx)(H:Hp)(h:Heap)(p:Addr×Obj):Prop:=h.get? p.1=some p.2∧H p.1=none∧p.1≠X.env.locals∧p.1∉X.fs∧∀v,p.2.data≠ .cell v
structure EaNew (X:Cx) (ea:Addr):Prop where
 s0:X.s₀.heap.get? ea=none
 nt:∀xs,X.H₀ ea≠some (.tup xs)
 nf:∀o u,X.H₀ ea≠some (.frz o u)
 nb:∀q,X.H₀ ea≠some (.tbl q)
section
variable {X:Cx} {pins:List (Addr×Obj)} {σ:L2.St} {H:Hp} {s:Shared} {ea:Addr}
theorem mH(I:Inv X pins σ H s):Inv (KC X ea) pins σ H s:=
 let ok:=I.ok
 ⟨⟨ok.mod,ok.kind,ok.glob,ok.blt,ok.above,ok.inj,ok.has,ok.cab,fun z=>(nomatch z),ok.frames,ok.stk,ok.exf,ok.bs,ok.bsz,ok.noex,ok.exfs,ok.funs,ok.frf,ok.tab⟩,I.os,I.bare,I.base,I.loc,I.cell,I.free,I.freeC,I.pin,I.hok,I.len⟩
theorem GI{ex:List (Addr×Obj)}(I:Inv X pins σ H s)(n:EaNew X ea)(hH:H ea=some (.frz oe (.ext (fM ea C))))(hp:∀p∈ex,ww X H s.heap p):Inv (hX X ea oe C ex) pins σ H s:=by
 have ok:=I.ok
 have ne:∀b o,X.s₀.heap.get? b=some o→b≠ea:=fun b o e z=>by rw[z,n.s0]at e;cases e
 have up:∀b u,(upd X.H₀ ea (.frz oe (.ext (fM ea C)))) b=u→b≠ea→X.H₀ b=u:=fun b u e z=>by rw[aC z]at e;exact e
 refine⟨⟨ok.mod,ok.kind,ok.glob,ok.blt,ok.above,ok.inj,ok.has,ok.cab,fun z=>(nomatch z),ok.frames,ok.stk,ok.exf,fun b o e=>?_,ok.bsz,ok.noex,ok.exfs,ok.funs,fun b hb=>?_,fun b q e=>?_⟩,I.os,I.bare,⟨fun b o e h=>I.base.keep b o e (up b _ h (ne b o e)),fun b o e h=>I.base.slot b o e (up b _ h (ne b o e)),fun b o e h=>I.base.free b o e (up b _ h (ne b o e)),I.base.there,fun b xs e=>?_,fun b o u e=>?_,fun b q e=>?_⟩,I.loc,I.cell,I.free,I.freeC,fun p q=>?_,I.hok,I.len⟩
 ·obtain⟨e1,e2⟩:=ok.bs b o e
  exact⟨e1,(aC (ne b o e1)).trans e2⟩
 ·obtain⟨_,o,e1,_⟩:=ok.funs.mem hb
  exact(aC (ne b o e1)).trans (ok.frf b hb)
 ·refine(aC fun z=>?_).trans (ok.tab b q e)
  subst z
  exact n.nb q (ok.tab _ q e)
 ·by_cases z:b=ea
  ·subst z
   replace e:=upd_same.symm.trans e
   cases e
  ·exact I.base.tups b xs (up b _ e z)
 ·by_cases z:b=ea
  ·subst z
   replace e:=upd_same.symm.trans e
   cases e
   exact hH
  ·exact I.base.frzs b o u (up b _ e z)
 ·by_cases z:b=ea
  ·subst z
   replace e:=upd_same.symm.trans e
   cases e
  ·exact I.base.tbls b q (up b _ e z)
 ·rcases Zah.mp q with q |q
  ·rcases Zah.mp q with q |q
   ·exact hp p q
   ·exact I.pin p (List.mem_append_left _ q)
  ·exact I.pin p (m9 _ q)
theorem LD{ex:List (Addr×Obj)}(I:Inv X pins σ H s)(hp:∀p∈ex,ww X H s.heap p):Inv X (pins++ex) σ H s:=by
 refine {I with pin:=fun p q=>?_}
 rcases Zah.mp q with q |q
 ·exact I.pin p (List.mem_append_left _ q)
 ·rcases Zah.mp q with q |q
  ·exact I.pin p (m9 _ q)
  ·exact hp p q
theorem LE{ex:List (Addr×Obj)}(I:Inv X (pins++ex) σ H s):Inv X pins σ H s∧∀p∈ex,ww X H s.heap p:=by
 refine⟨{I with pin:=fun p q=>I.pin p ?_},fun p q=>I.pin p (m9 _ (m9 _ q))⟩
 rcases Zah.mp q with q |q
 ·exact List.mem_append_left _ q
 ·exact m9 _ (List.mem_append_left _ q)
theorem Eg{ex:List (Addr×Obj)}(I:Inv (hX X ea oe C ex) pins σ H s)(ok:X.Ok)(n:EaNew X ea):Inv X pins σ H s:=by
 have ne:∀b o,X.s₀.heap.get? b=some o→b≠ea:=fun b o e z=>by rw[z,n.s0]at e;cases e
 have dn:∀b u,X.H₀ b=u→b≠ea→(hX X ea oe C ex).H₀ b=u:=fun b u e z=>(aC z).trans e
 exact⟨ok,I.os,I.bare,⟨fun b o e h=>I.base.keep b o e (dn b _ h (ne b o e)),fun b o e h=>I.base.slot b o e (dn b _ h (ne b o e)),fun b o e h=>I.base.free b o e (dn b _ h (ne b o e)),I.base.there,fun b xs e=>I.base.tups b xs (dn b _ e fun z=>n.nt xs (z▸e)),fun b o u e=>I.base.frzs b o u (dn b _ e fun z=>n.nf o u (z▸e)),fun b q e=>I.base.tbls b q (dn b _ e fun z=>n.nb q (z▸e))⟩,I.loc,I.cell,I.free,I.freeC,fun p q=>I.pin p (by
  rcases Zah.mp q with q |q
  ·exact List.mem_append_left _ (m9 _ q)
  ·exact m9 _ q),I.hok,I.len⟩
theorem B4{o:HO}(I:Inv X pins σ H s)(hn:H a=none)(h0:X.s₀.heap.get? a=none)(hL:X.env.locals≠a)(hc:∀x c,X.env.cells.lookup x=some c→c≠a)(hp:∀p∈X.pn++pins,p.1≠a)(ok:ObjOk X.prog X.w (upd H a o) s.heap a o):Inv X pins σ (upd H a o) s:=by
 have ne:∀b u,H b=some u→b≠a:=fun b u e=>bD e hn
 refine⟨I.ok,I.os,I.bare,⟨I.base.keep,I.base.slot,fun b u e n hx=>?_,I.base.there,fun b xs e=>?_,fun b u v e=>?_,fun b q e=>?_⟩,I.loc,I.cell,?_,fun x c e=>?_,fun p q=>?_,fun b u e=>?_,I.len⟩
 ·rw[aC (fun z=>by rw[z,h0]at e;cases e)];exact I.base.free b u e n hx
 ·have z:=I.base.tups b xs e
  rw[aC (ne _ _ z)];exact z
 ·have z:=I.base.frzs b u v e
  rw[aC (ne _ _ z)];exact z
 ·have z:=I.base.tbls b q e
  rw[aC (ne _ _ z)];exact z
 ·rw[aC hL];exact I.free
 ·rw[aC (hc x c e)];exact I.freeC x c e
 ·obtain⟨e1,e2,e3⟩:=I.pin p q
  exact⟨e1,by rw[aC (hp p q)];exact e2,e3⟩
 ·by_cases hb:b=a
  ·subst hb;rw[upd_same]at e;cases e;exact ok
  ·rw[aC hb]at e
   refine(I.hok b u e).stay (fun c w' _ q=>q) (fun c q=>?_) fun c xs q=>?_
   ·rw[aC (ne _ _ q)];exact q
   ·rw[aC (ne _ _ q)];exact q
theorem Eh{M:Model}{A:Around}{E:Value→Shared→Prop}{i:Nat}{pos:Pos}{Q:Unit→Shared→Prop}(I:Inv X pins σ H s)(hN:X.N.Nodup)(hi:X.N[i]? =some x)(hk:X.env.scope.names.lookup x=some .local)
  (h:∀s',Inv X pins (σ.set i none) H s'→Q () s'):wpAny M A (do bindName X.env x .none;unbindBehindTheSuite X.env x pos) Q E s:=by
 obtain⟨m,hn,hl⟩:=id I.loc
 have hcls:(X.env.scope.kind ==.class||(X.env.scope.kind ==.module&&X.env.locals != X.env.globals))=false:=by rw[I.ok.kind];rfl
 have hiσ:i < σ.length:=by rw[I.len];exact(Zav.mp hi).1
 have cne:=I.cne
 refine wpAny_nameGoes_keeps hk hn hcls fun h' v hn' hs=>?_
 obtain⟨oL,_,_,hoL,_⟩:=id hn
 refine h _ ⟨I.ok,I.os,I.bare,⟨fun b o e n hb hx=>?_,fun b o e n hb hx=>?_,I.base.free,fun b o e hx=>?_,I.base.tups,I.base.frzs,I.base.tbls⟩,⟨_,hn',fun j y v' e1 e2 e3=>?_⟩,fun y c e=>?_,I.free,I.freeC,fun p hp=>?_,fun b ob e=>?_,by simpa using I.len⟩
 ·exact(hs.2 b (gS (ma (fP e) I.ok.above))).trans (I.base.keep b o e n hb hx)
 ·obtain⟨sl,e1⟩:=I.base.slot b o e n hb hx
  exact⟨sl,(hs.2 b (gS (ma (fP e) I.ok.above))).trans e1⟩
 ·obtain⟨o',e1⟩:=I.base.there b o e hx
  exact⟨o',(hs.2 b (gS (ma (fP e) I.ok.above))).trans e1⟩
 ·by_cases hj:j=i
  ·subst hj
   rw[List.getElem?_set_self hiσ]at e2
   cases e2
  ·rw[List.getElem?_set_ne (Ne.symm hj)]at e2
   obtain⟨u',r',q⟩:=hl j y v' e1 e2 e3
   refine⟨u',r',?_⟩
   rcases q with⟨k,e⟩ |⟨k,c,e,z⟩
   ·refine .inl ⟨k,?_⟩
    have:y≠x:=fun e=>hj (pD hN e1 (e▸hi))
    simp[this,e]
   ·exact .inr ⟨k,c,e,z.sameBut hs (cne y c e)⟩
 ·obtain⟨w',z⟩:=I.cell y c e
  exact⟨w',z.sameBut hs (cne y c e)⟩
 ·obtain⟨e,n,ne,nf,d⟩:=I.pin p hp
  exact⟨(hs.2 p.1 ne).trans e,n,ne,nf,d⟩
 ·refine(I.hok b ob e).stay (fun c w' hc q=>(hs.2 c ?_).trans q) (fun _ q=>q) fun _ _ q=>q
  rintro rfl
  rcases hc with rfl |hc
  ·rw[I.free]at e;cases e
  ·rw[I.free]at hc;cases hc
end
theorem jk:∀{ps:List (Addr×Obj)} {p:Addr×Obj},ChainP ps→p∈ps→∃ws,p.2.data=.fields ws∧∃v,ws[2]? =some v:=by
 intro ps
 induction ps with
 |nil=>intro p _ h;cases h
 |cons q ps ih=>
  intro p c h
  rcases Zag.mp h with z |z
  ·subst z
   obtain⟨ws,a,b⟩:=c.1
   exact⟨ws,a,_,b⟩
  ·exact ih c.2.2 z
abbrev qW(n:Str):PyData:=.dict [(.none,.str n)]
def wx(ok:List Str)(i:Nat)(r:fO)(g h:cI):cI:=fun E=>match r E with
 |none=>g E
 |some (n,E')=>if n∈ok∧i < E'.length then match h (E'.set i (.sh (qW n)))with
  |some (E2,.rt s)=>some (E2,.rt s)
  |_=>none
  else none
theorem GJ{cn en:Str}{CH:Addr}{hpos pos:Pos}{b₀:Stmt}{suite:List Stmt}{ok:List Str}{i:Nat}{r:fO}{g hs:cI}(hx:X.xe=fun _ _=>False)(hN:X.N.Nodup)(hex:X.ex=[])(hst:X.stack=X.env::X.outer)(hfr:X.env.frame=some X.env.locals)(hg:Gl X cn)(hm:X.mg cn=some (.ref CH))
  (hok:∀n∈ok,∀C,nsIn X.K mainGlobals n=some (some (.ref C))→exmOne X.K (.ref C) (.ref CH)=some true) (hb:vF X body g) (hr:∀W,Ed (X.wish W) false false body r) (hh:∀ea oe C ex,ChainP ((ea,oe)::ex)→vF (hX X ea oe C ex) (b₀::suite) hs)
  (hi:X.N[i]? =some en:=by rfl) (hk:X.env.scope.names.lookup en=some .local:=by rfl) (hdb:(cn == ("__debug__":Str))=false:=by decide):
  SX X (.Try body [.ExceptHandler (some (.Name cn np)) (some en) (b₀::suite) hpos] [] [] pos) (wx ok i r g hs):=by
 intro pins s σ H D I hw
 obtain⟨B,E,xs,Xs,E2,fl,fr,cl,e,q⟩:=hw
 subst cl
 have hxs:xs=[]:=by obtain⟨_,_,f⟩:=fr;simpa using f.len
 subst hxs
 unfold wx at e
 split at e
 ·have q:=hb pins s σ H D I ⟨B,E,[],[],E2,fl,fr,rfl,e,q⟩
  rw[hx]at q
  refine wpAny_Try_except (zz2 q (fun f s1 z=>?_) fun _ _ z=>z.elim)
  cases f with
  |next=>exact wpAny_execs_nil z
  |brk=>exact z
  |cont=>exact z
  |ret u=>exact z
 ·rename_i n E' er
  split at e
  rotate_left
  ·cases e
  rename_i hc
  split at e
  rotate_left
  ·cases e
  rename_i E3 sv eh
  cases e
  refine wpAny_Try_except (zz2 (hr (fun e s₁=>wpAny (model X.prog X.w) X.A (noteFrame e X.env) (fun _ s₂=>wpAny (model X.prog X.w) X.A (setFlight e none) (fun _ s₃=>wpAny (model X.prog X.w) X.A (handleBy e X.env [.ExceptHandler (some (.Name cn np)) (some en) (b₀::suite) hpos]) (SP X pins D) X.xe s₃) X.xe s₂) X.xe s₁) pins s σ H B E n E' (I.wish _) fr er fun pp hp σ' C H' ns fr'=>⟨fun z=>(nomatch z),?_,fun z=>(nomatch z)⟩) (fun _ _ z=>z.elim) fun _ _ z=>z)
  cases hp rfl
  intro H1 s1 ea s' a0 Bb I1 os bare fly hokB u
  have I1:Inv X pins σ' H1 s1:=I1.unwish
  have ff:s'.heap.FunFrames Bb X.stack:=fly.2.2.1
  have fly':FlyC H' Bb (X.env::X.outer) ea (.ref C) a0 s'.heap:=hst▸fly
  have invAt:∀h5,Bb.StaysIn h5→s'.heap.UpToSlots h5→Inv X pins σ' H' {s' with heap:=h5}:=fun h5 st k=>by
   have u2:UnB (iz X.stack) H1 H' s1.heap Bb h5:=u.on ff k
   exact I1.call' (s':={s' with heap:=h5}) os (u2.un st I1.stkFree) (hokB.kept fun b o e=>st b o e) bare fun b z=>(nomatch z)
  refine kN (by rw[I1.ok.frames,hst]) hfr fly' fun h4 held4 k4=>?_
  refine yR held4 fun h5 fly5 k5=>?_
  have I5:=invAt h5 fly5.1 (k4.trans k5)
  obtain⟨ob,hob,hobc⟩:=fly5.there
  have Z5:fM ea C h5:=⟨ob,hob,hobc⟩
  refine wpAny_handleBy_cons (codeAny_handlers_test (fX (X:=KC X ea) (mH I5) hg hm ?_ hdb)) (by intro q;cases q)
  refine(PySem.W.exm_one (I5.kIn) (lH Z5) (hok n hc.1 C ns)).here ?_
  refine codeAny_handlers_suite_as ?_
  refine mG fly5 fun h6 fly6 k6=>?_
  have I6:=invAt h6 fly6.1 ((k4.trans k5).trans k6)
  obtain⟨oe,vs,hoe,hoec,hoed,_⟩:=fly6.first
  have nB:Bb.get? ea=none:=fly6.2.1
  have old:∀b o,s1.heap.get? b=some o→b≠ea:=fun b o eb z=>by
   subst z
   by_cases hf:b∈iz X.stack
   ·obtain⟨_,o',ho',hd⟩:=(show h6.FunFrames Bb X.stack from hst▸fly6.2.2.1).mem hf
    rw[hoe]at ho'
    cases ho'
    exact hd vs hoed
   ·obtain⟨o',ho'⟩:=u.there b o eb hf
    rw[nB]at ho'
    cases ho'
  have hn6:H' ea=none:=by
   cases q:H' ea with
   |none=>rfl
   |some o=>
    obtain⟨z,e⟩:=oG (hokB ea o q)
    rw[nB]at e
    cases e
  have hs0:X.s₀.heap.get? ea=none:=by
   cases q:X.s₀.heap.get? ea with
   |none=>rfl
   |some o=>
    obtain⟨o',z⟩:=I1.base.there ea o q (by rw[hex];exact fun z=>(nomatch z))
    exact absurd rfl (old ea o' z)
  have hnew:EaNew X ea:=⟨hs0,fun xs z=>(nomatch hn6.symm.trans (I6.base.tups ea xs z)),fun o u z=>(nomatch hn6.symm.trans (I6.base.frzs ea o u z)),fun q z=>(nomatch hn6.symm.trans (I6.base.tbls ea q z))⟩
  obtain⟨ps,hcp,cv,r1,r2⟩:=fly6.2.2.2.2
  have hchn:ChainP ((ea,oe)::ps):=by
   obtain⟨o,ws,ho,hd,h2⟩:=cv
   rw[hoe]at ho
   cases ho
   exact⟨⟨ws,hd,h2⟩,r2,hcp⟩
  have I7:Inv X pins σ' (upd H' ea (.frz oe (.ext (fM ea C)))) {s' with heap:=h6}:=by
   refine B4 I6 hn6 ?_ ?_ (fun x c e=>?_) (fun p hp=>?_) ?_
   ·cases q:X.s₀.heap.get? ea with
    |none=>rfl
    |some o=>
     obtain⟨o',z⟩:=I1.base.there ea o q (by rw[hex];exact fun z=>(nomatch z))
     exact absurd rfl (old ea o' z)
   ·obtain⟨_,⟨o,_,_,ho,_⟩,_⟩:=I1.loc
    exact old _ o ho
   ·obtain⟨v,o,ho,_⟩:=I1.cell x c e
    exact old _ o ho
   ·exact old _ _ (I1.pin p hp).1
   ·exact⟨hoe,⟨oe,hoe,hoec⟩,⟨oe,hoe⟩,fun h1 h2 ⟨o,z,c⟩ k=>⟨o,k o z,c⟩⟩
  have pins7:∀p∈ps,ww X (upd H' ea (.frz oe (.ext (fM ea C)))) h6 p:=fun p hp=>by
   obtain⟨b1,b2⟩:=r1 p hp
   have g6:=fly6.1 p.1 p.2 b1
   obtain⟨ws,hd,_⟩:=jk hcp hp
   refine⟨g6,(aC (r2 p hp)).trans b2,fun z=>?_,fun z=>?_,fun v z=>by rw[hd]at z;cases z⟩
   ·obtain⟨_,⟨o,_,_,ho,hdo,_⟩,_⟩:=I7.loc
    rw[←z,g6]at ho
    cases ho
    rw[hd]at hdo
    cases hdo
   ·have hz:p.1∈iz X.stack:=by rw[hst];unfold iz;rw[List.filterMap_cons,hfr];exact gQ _ z
    obtain⟨_,o',ho',hdn⟩:=(show h6.FunFrames Bb X.stack from hst▸fly6.2.2.1).mem hz
    rw[g6]at ho'
    cases ho'
    exact hdn ws hd
  refine pE (X:=X) (LD I7 pins7) hN hi (.inl hk) (v:=.ref ea) rfl (fun s8 I8p=>?_) (.inr hk)
  obtain⟨I8,hp8⟩:=LE I8p
  have g:Same H' (upd H' ea (.frz oe (.ext (fM ea C)))):=fun b o e=>by rw[aC (bD e hn6)];exact e
  obtain⟨F',A',fr1⟩:=fr'
  have fr2:=fr1.grow g
  have nA:ea∉A':=fun z=>by
   rcases fr1.mutA ea z with⟨_,w⟩ |⟨_,w⟩ <;> rw[hn6]at w <;> cases w
  have fr3:=fr2.push (v:=.ref ea) (s:=.sh (qW n)) ⟨rfl,_,rfl,.exc (by show(if ea∈A' then none else _)=_;rw[if_neg nA];exact upd_same) ns⟩
  obtain⟨A3,fr4⟩:=fr3.store rfl (fun _ z=>(nomatch z)) hc.2
  have q8:=hh ea oe C ps hchn pins s8 _ _ {nx:=fun _ _=>False,bk:=fun _ _=>False,ct:=fun _ _=>False,rt:=fun v H9=>∃σ9,Frm X.K B σ9 H9 E2 [v] [sv]} (GI I8 hnew upd_same hp8) ⟨B,_,[],[],E2,.rt sv,⟨_,A3,fr4⟩,rfl,eh,fun σ9 v H9 f=>⟨σ9,f⟩⟩
  refine zz2 q8 (fun f s9 z=>?_) fun _ _ z=>z.elim
  cases f with
  |next=>obtain⟨_,_,_,z⟩:=z;exact z.elim
  |brk=>obtain⟨_,_,_,z⟩:=z;exact z.elim
  |cont=>obtain⟨_,_,_,z⟩:=z;exact z.elim
  |ret uu=>
   obtain⟨v,σ9,H9,I9,rv,σx,fx⟩:=z
   have I9:Inv X pins σ9 H9 s9:=Eg I9 I.ok hnew
   exact Eh I9 hN hi hk fun s10 I10=>⟨v,_,H9,I10,rv,q _ v H9 fx⟩
end PL
namespace PL
open PySem PySem.Spec PyProof.Rows L2 Nh
def XT(K:Frag)(c:Value)(tab:List (Str×Bool)):Prop:=∀n b C,tab.lookup n=some b→nsIn K mainGlobals n=some (some (.ref C))→ExCls K C∧kitOne K (.ref C) c=some b
theorem g8{K:Frag}{c:Value}:XT K c []:=fun _ _ _ e=>nomatch e
theorem aD{K:Frag}{c:Value}{n:Str}{b:Bool}{tab:List (Str×Bool)}(ns:nsIn K mainGlobals n=some (some (.ref C)))(Z:ExCls K C)(k:kitOne K (.ref C) c=some b)(h:XT K c tab):XT K c ((n,b)::tab):=fun n' b' C' e ns'=>by
 rw[List.lookup_cons]at e
 split at e
 ·rename_i q
  rw[beq_iff_eq]at q
  subst q
  rw[ns]at ns'
  cases ns'
  cases e
  exact⟨Z,k⟩
 ·exact h n' b' C' e ns'
def kZ(tab:List (Str×Bool)):PyData→Option PyData
 |.dict [(.none,.str n)]=>(tab.lookup n).map .bool
 |_=>none
theorem JG{K:Frag}{H:Hp}{n:Str}(r:Rp K H v (.dict [(.none,.str n)])):∃a C o,v=.ref a∧H a=some (.frz o (.ext (fM a C)))∧nsIn K mainGlobals n=some (some (.ref C)):=by
 generalize e:PyData.dict [(PyData.none,PyData.str n)]=d at r
 cases r with
 |exc h1 h2=>cases e;exact⟨_,_,_,rfl,h1,h2⟩
 |dct h1 h2=>
  cases h2 with
  |nil=>cases e
  | @cons k x us d kvs a b=>cases k <;> cases e
 |_=>cases e
section
variable {X:Cx} {e:Expr} {m1:Bool} {f:ba} {p p2 pos:Pos}
theorem B5{c:Value}{vc:V}{tab:List (Str×Bool)}(rc:∀u,RelV vc u→u=c)(T:XT X.K c tab):CallR X (.builtin "isinstance") (fun xs H Q=>∃x d r,xs=[x,vc]∧Rp X.K H x d∧kZ tab d=some r∧∀b,r=.bool b→Q (.bl b) H):=by
 intro pins s σ H xs us Q I r h
 obtain⟨x,d,r',rfl,rp,hd,q⟩:=h
 obtain⟨u,w',rfl,ru,rw'⟩:=r.two
 cases rc w' rw'
 unfold kZ at hd
 split at hd
 ·rename_i n
  obtain⟨b,eb,z⟩:=Zab.mp hd
  obtain⟨a,C,oz,rfl,ha,ns⟩:=JG rp
  obtain⟨Z,k⟩:=T n b C eb ns
  cases(show u=Value.ref a from ru)
  exact kia_one (D8 Z) I.kIn (show fM a C s.heap from(I.hok a _ ha).2.1) k (fun z=>nomatch z) fun tk=>⟨.bl b,H,I.tok _,rfl,q b z.symm⟩
 ·cases hd
theorem Aw{c:Value} {vc:V} {tab:List (Str×Bool)} (rc:∀u,RelV vc u→u=c) (T:XT X.K c tab) (hg:Gl X "isinstance") (hm:X.mg "isinstance"=none) (ha:EX X e m1 f)  (h2:PE X (.Name x p2) (tC vc))
  (he:starEach [e,.Name x p2] X.env=(false,eval e X.env)::starEach [.Name x p2] X.env) (he2:starEach [.Name x p2] X.env=[(false,eval (.Name x p2) X.env)]) (hpl:(backTo pos (starEach [.Name x p2] X.env)).any (·.1)=false):
  EX X (.Call (.Name "isinstance" p) [e,.Name x p2] [] pos) m1 (lA (kZ tab) f):=by
 refine bA (jU (B5 rc T) hg hm PyProof.Rows.boot_isinstance (bU ha (bU h2 d0 he2) he) (by decide) (by decide) he hpl) fun σ H Q z=>?_
 obtain⟨B,E,xs,Xs,res,E',fr,cl,e,q⟩:=z
 obtain⟨⟨s,E1⟩,e1,e⟩:=Za.mp e
 obtain⟨d1,e2,e⟩:=Za.mp e
 obtain⟨d2,e3,e⟩:=Zab.mp e
 cases e
 refine⟨B,E,xs,Xs,s,E1,fr,cl,e1,fun v1 H1 ⟨F,A,fr1⟩=>?_⟩
 obtain⟨A',fr2⟩:=fr1.pop
 exact⟨v1,d1,d2,rfl,(fr1.look0 e2).1,e3,fun b z=>q _ _ ⟨F,A',fr2.push ⟨rfl,_,rfl,z▸ .bl b⟩⟩⟩
theorem f8{tab:List (Str×Bool)} (hg:Gl X "isinstance") (hm:X.mg "isinstance"=none) (ha:EX X e m1 f)  (hgx:Gl X x) (hmx:X.mg x=some (.ref C)) (T:XT X.K (.ref C) tab) (hdx:(x == ("__debug__":Str))=false:=by decide)
  (he:starEach [e,.Name x p2] X.env=(false,eval e X.env)::starEach [.Name x p2] X.env:=by rfl) (he2:starEach [.Name x p2] X.env=[(false,eval (.Name x p2) X.env)]:=by rfl) (hpl:(backTo pos (starEach [.Name x p2] X.env)).any (·.1)=false:=by rfl):
  EX X (.Call (.Name "isinstance" p) [e,.Name x p2] [] pos) m1 (lA (kZ tab) f):=Aw (vc:=.ref C) (fun _ z=>z) T hg hm ha (sV (v:=.ref C) hgx hmx rfl hdx) he he2 hpl
theorem GK{t:String} {tab:List (Str×Bool)} (hg:Gl X "isinstance") (hm:X.mg "isinstance"=none) (ha:EX X e m1 f)  (hgx:Gl X x) (hmx:X.mg x=none) (hbx:bootBuiltins x=some (.type t)) (T:XT X.K (.type t) tab) (hnx:x≠"__name__":=by decide) (hdx:(x == ("__debug__":Str))=false:=by decide)
  (he:starEach [e,.Name x p2] X.env=(false,eval e X.env)::starEach [.Name x p2] X.env:=by rfl) (he2:starEach [.Name x p2] X.env=[(false,eval (.Name x p2) X.env)]:=by rfl) (hpl:(backTo pos (starEach [.Name x p2] X.env)).any (·.1)=false:=by rfl):
  EX X (.Call (.Name "isinstance" p) [e,.Name x p2] [] pos) m1 (lA (kZ tab) f):=Aw (vc:=.ty t) (fun _ z=>z) T hg hm ha (zR (v:=.ty t) hgx hmx hbx rfl hnx hdx) he he2 hpl
end
structure RoomH (k:Nat) (A:Around):Prop where
 dp:A.depth+3*k+5 < recursionLimit
 un:A.units+16*k+200 < cLine
theorem RoomH.mono{A:Around}(r:RoomH k A)(h:j≤k):RoomH j A:=⟨by have:=r.dp;omega,by have:=r.un;omega⟩
theorem RoomH.deeper{A:Around}(r:RoomH (k+1) A)(env:Env):RoomH k (A.deeper env):=
 ⟨by have:=r.dp;show A.depth+1+3*k+5 < _;omega,by have:=r.un;show A.units+3+16*k+200 < _;omega⟩
theorem RoomH.depth{A:Around}(r:RoomH k A):A.depth < recursionLimit:=by have:=r.dp;omega
theorem RoomH.units{A:Around}(r:RoomH k A):A.units+64 < cLine:=by have:=r.un;omega
theorem Room.mark{A:Around}(r:Room k A)(v:Option Value):RoomH k (A.mark v):=⟨r.dp,r.un⟩
abbrev Mm(P:Program)(w:World)(K:Frag)(mg:Str→Option Value)(base:Heap)(N:List Str)(qual:Str)(scope:Scope)(f:Addr)(cd:Value)(A:Around)(outer:List Env)(s:Shared)(H:Hp)(E:XK):Cx:={je xK P w K mg base N qual scope f cd A outer s H E with calm:=false,xe:=fun _ _=>False}
structure FnOkH (P:Program) (w:World) (K:Frag) (mg:Str→Option Value) (base:Heap) (k:Nat) (f:Addr) (fd:FuncData) (ps:List Str) (sp:Sp):Prop where
 len:∀vs H Q E,sp vs H Q E→vs.length=ps.length
 run:∀(A:Around) (outer:List Env) (s:Shared) (H:Hp) (args:Args) (us:List Value) (vs:List V) (Q:VK) (E:XK),RoomH k A→Env0 P w K mg base A outer s H→BindsTo s fd args (ps.zip us)→Vals vs us→sp vs H Q E→
  codeAny (model P w) A (.call (.ref f) args) (CR xK outer P w H s Q E) s
structure OwnH (P:Program) (w:World) (K:Frag) (mg:Str→Option Value) (base:Heap) (k:Nat) (x:Str) (ps:List Str) (sp:Sp):Prop where
 ex:∃(f:Addr) (fd:FuncData),FnOkH P w K mg base k f fd ps sp∧Binds K fd ps []∧mg x=some (.ref f)∧keepIn K (.ref f)=true
theorem JH{w:World}{K:Frag}{mg:Str→Option Value}{base:Heap}{f:Addr}{name:Str}{dV kV ct:Value}{od:Option Addr}
   {N:List Str}  (lk:K.lookup f=some ⟨oc,od,.func (fnOf name qual params body scope dV kV doc pm an cdv ct),osl⟩) (hcd:codeIn K cdv qual=true) (S:FnScope N ps scope)
  (len:∀vs H Q E,sp vs H Q E→vs.length=ps.length)
  (hbody:∀(A:Around) (outer:List Env) (s:Shared) (H:Hp) (vs:List V) (Q:VK) (E:XK),RoomH k (A.deeper (envOfC qual scope s.heap.objs.size f cdv))→sp vs H Q E→
   ∃t,PSs (Mm P w K mg base N qual scope f cdv A outer s H E) body t∧t {nx:=fun _ H'=>Q .non H',rt:=Q} (gB N vs) H):
  FnOkH P w K mg base (k+1) f (fnOf name qual params body scope dV kV doc pm an cdv ct) ps sp:=by
 refine⟨len,fun A outer s H args us vs Q E hr e0 hb r hsp=>?_⟩
 have hl:=len _ _ _ _ hsp
 have KX:K.In s.heap:=e0.mod.kin.keeps fun b o e=>(e0.bs b o e).1
 have lim:s.heap.NoLimit:=e0.mod.nolimit.keeps fun b o e=>(e0.bs b o e).1
 have hkind:∀y∈ps.zip us,scope.names.lookup y.1=some .local∨(scope.names.lookup y.1=some .cell∧((cellsFrom (s.heap.objs.size+1) scope.names []).lookup y.1).isSome=true):=fun⟨n,v⟩ hy=>by
  rcases S.par n (List.of_mem_zip hy).1 with q |q
  ·exact .inl q
  ·exact .inr ⟨q,cellsFrom_some _ _ _ (.inl q)⟩
 refine codeAny_call_function hr.depth (KX _ _ lk) rfl S.co S.gen rfl (PySem.W.codeRec_of KX hcd) (hb _ _ _ _ ?_)
 refine wpAny_newFunctionEnv_cells S.kind hkind fun env he s1 x=>?_
 subst he
 refine⟨lim.keeps x.toInCall.keep,codeAny_func ?_⟩
 obtain⟨t,ht,hq⟩:=hbody A outer s H vs Q E (hr.deeper _) hsp
 have I0:Inv (je xK P w K mg base N qual scope f cdv {A with handled:=none} outer s H E) [] (gB N vs) H s1:=rJ S rfl ⟨e0.frames,e0.mod,e0.bs,e0.bsz,e0.funs,e0.frf,e0.hok,e0.bare,e0.tab⟩ hl r x
 have I:Inv (Mm P w K mg base N qual scope f cdv A outer s H E) [] (gB N vs) H s1:=
  let ok:=I0.ok
  ⟨⟨ok.mod,ok.kind,ok.glob,ok.blt,ok.above,ok.inj,ok.has,ok.cab,fun z=>(nomatch z),Around.frames_deeper e0.frames,ok.stk,ok.exf,ok.bs,ok.bsz,ok.noex,ok.exfs,ok.funs,ok.frf,ok.tab⟩,I0.os,I0.bare,I0.base,I0.loc,I0.cell,I0.free,I0.freeC,I0.pin,I0.hok,I0.len⟩
 refine zz2 (ht [] s1 (gB N vs) H _ I hq) (fun fl s' hs=>?_) fun e s' hs=>hs.elim
 have fin:∀{σ':L2.St} {H':Hp} {v:V} {u:Value},Inv (Mm P w K mg base N qual scope f cdv A outer s H E) [] σ' H' s'→RelV v u→Q v H'→CE outer P w H s Q u s':=
  fun {σ' H' v u} J rv q=>⟨v,H',J.os,J.bare,J.base,J.hok,rv,q⟩
 cases fl with
 |ret u=>
  obtain⟨v,σ',H',J,rv,q⟩:=hs
  exact fin J rv q
 |next=>
  obtain⟨σ',H',J,q⟩:=hs
  exact fin (v:=V.non) (u:=Value.none) J rfl q
 |brk=>
  obtain⟨_,_,_,q⟩:=hs
  exact False.elim q
 |cont=>
  obtain⟨_,_,_,q⟩:=hs
  exact False.elim q
theorem MX{w:World}{K:Frag}{mg:Str→Option Value}{base:Heap}{N:List Str}{a:Nat}{g:cI}(D:Def K mg x st ps)(S:FnScope N ps (ak st))(hpa:ps.length=a)(hNn:N.length=n)(hps:a≤n)
  (hbody:∀(f:Addr) (cdv:Value) (A:Around) (outer:List Env) (s:Shared) (H:Hp) (E:XK),RoomH k (A.deeper (PyProof.Rows.envOfC x (ak st) s.heap.objs.size f cdv))→
   vF (Mm P w K mg base N x (ak st) f cdv A outer s H E) (bE st) g):OwnH P w K mg base (k+1) x ps (gw K (gy a n g)):=by
 subst hpa hNn
 obtain⟨f,fd,F,mx,b⟩:=D.ex
 have kp:=F.kp
 obtain⟨oc,od,kV,doc,pm,an,cdv,ct,osl,rfl,lk,hcd⟩:=F.ex
 refine⟨f,_,JH lk hcd S (fun vs H Q E h=>?_) fun A outer s H vs Q E hr h=>?_,b,mx,kp⟩
 ·obtain⟨ds,r,e,rp,_⟩:=h
  unfold gy at e
  split at e
  ·rename_i hl
   rw[rp.len];exact hl
  ·cases e
 obtain⟨ds,r,e,rp,q⟩:=h
 unfold gy at e
 split at e
 ·rename_i hl
  refine⟨_,hbody f cdv A outer s H E hr,?_⟩
  obtain⟨⟨E',fl⟩,e1,e⟩:=Za.mp e
  refine⟨H,dW N.length ds,[],[],E',fl,⟨H,[],ml rp (by omega)⟩,rfl,e1,?_⟩
  cases fl with
  |nx=>
   cases e
   rintro σ' H' ⟨F',A',fr'⟩
   exact q _ _ (fr'.bf.trans fr'.fh) .non
  |bk=>cases e
  |ct=>cases e
  |rt r'=>
   rintro σ' v H' ⟨F',A',fr'⟩
   obtain⟨s1,s2⟩:=fr'.resultO e
   exact q v H' s1 s2
 ·cases e
theorem GL{pos:Pos}{es:List Expr}{g:nq}(D:OwnH X.prog X.w X.K X.mg X.base k x ps (gw X.K c))(hr:RoomH k X.A)(hg:Gl X x)(ha:AX X (e::es) m g)
  (hdb:(x == ("__debug__":Str))=false:=by decide) (he:starEach (e::es) X.env=(false,eval e X.env)::starEach es X.env:=by rfl) (hpl:(backTo pos (starEach es X.env)).any (·.1)=false:=by rfl):
  EX X (.Call (.Name x p) (e::es) [] pos) m (am c g):=by
 obtain⟨f,fd,F,b,mx,kp⟩:=D.ex
 have hc:PE X (.Call (.Name x p) (e::es) [] pos) (C9 (gw X.K c) [] E0 (ra X.K m g)):=by
  intro pins s σ H Q I h
  refine zz6 (fX I hg mx ?_ hdb)
  refine callWith_K (h₀:=X.base) I.ok.mod.kin kp (dw (ha pos pins s σ H _ I h) fun us s1 ⟨vs,H1,I1,r,q⟩=>⟨I1.kIn,?_⟩) he hpl
  have q:gw X.K c (vs++[]) H1 Q E0:=q
  rw[oR]at q
  have hlen:(us++[]).length=ps.length:=by rw[oR,←r.length];exact F.len _ _ _ _ q
  have bd:=b s1 us I1.kIn hlen
  rw[oR]at bd
  refine wpAny_call (codeAny_mono (F.run X.A X.stack s1 H1 ⟨us,[]⟩ us vs Q E0 hr I1.env0 bd r q) fun rr s' hq=>?_)
  cases rr with
  |error e=>exact False.elim hq
  |ok fl=>
   cases fl with
   |ret u=>exact I1.after hq
   |next=>exact False.elim hq
   |brk=>exact False.elim hq
   |cont=>exact False.elim hq
 refine bA hc fun σ H Q z=>?_
 obtain⟨B,E,xs,Xs,res,E',fr,cl,e,q⟩:=z
 obtain⟨⟨rs,E1⟩,e1,e⟩:=Za.mp e
 obtain⟨ds,e2,e⟩:=Za.mp e
 obtain⟨r,e3,e⟩:=Zab.mp e
 cases e
 refine⟨B,E,xs,Xs,rs,E1,fr,cl,e1,fun vs H1 hl ⟨F,A,fr1⟩=>?_⟩
 obtain⟨r1,A',fr2⟩:=fr1.looks hl e2
 exact⟨ds,res,e3,by rw[oR];exact r1,fun v H' g q'=>q v H' (fr2.told g q')⟩
end PL
namespace PL
open PySem PySem.Spec PyProof.Rows L2 Nh
section
variable {M:Model} {A:Around} {E:Value→Shared→Prop} {s:Shared}
theorem wy{base:Heap}{env:Env}{outer:List Env}{L e:Addr}{cls:Value}{Q:Unit→Shared→Prop}
  (hfr:A.frames=some (env::outer)) (hf:env.frame=some L) (hkb:base.StaysIn h) (hl:h.FunFrames base (env::outer)) (hx:Heap.MadeExcOf h s.heap e cls args)
  (hQ:∀h' t,Heap.HeldW base (env::outer) e cls (.ref t) L h'→s.heap.UpToSlots h'→Q () {s with heap:=h'}):wpAny M A (noteFrame (.ref e) env) Q E s:=by
 obtain⟨t,he,htn,ht⟩:=hx.there
 have hen:base.get? e=none:=by
  cases hq:base.get? e with
  |none=>rfl
  |some o'=>have:=hkb e o' hq;rw[hx.new]at this;cases this
 have h1:(#[Value.ref t,.none,.none,.none,.bool false,.none]:Array Value)[1]? =some Value.none:=rfl
 unfold noteFrame
 simp only[hf]
 refine zz0 (wpAny_field he rfl h1 ?_)
 rw[if_neg (show ¬((Value.none != Value.none)=true)from by decide)]
 exact wpAny_entryW (a0:=.ref t) hfr (hl.of_keeps fun b o hb _=>⟨o,hx.keeps b o hb,rfl⟩) hf he (fun b o hb=>hx.keeps b o (hkb b o hb)) hen rfl (by simp) rfl fun h' ⟨x1,x2,x3,x4⟩=>hQ h' t ⟨x1,hen,x2,x3⟩ x4
theorem yS{base:Heap}{env:Env}{outer:List Env}{L e:Addr}{cls:Value}{Q:Unit→Shared→Prop}
  (hfr:A.frames=some (env::outer)) (hf:env.frame=some L) (hkb:base.StaysIn h) (hl:h.FunFrames base (env::outer)) (hx:Heap.MadeExcOf h s.heap e cls args)
  (hQ:∀h' t,HeldC Hf base (env::outer) e cls (.ref t) L h'→s.heap.UpToSlots h'→Q () {s with heap:=h'}):wpAny M A (noteFrame (.ref e) env) Q E s:=
 p7 (P:=fun h'=>∃t,Heap.HeldW base (env::outer) e cls (.ref t) L h'∧s.heap.UpToSlots h') (pi _ _) (wn hx) (fun k=>wy hfr hf hkb hl hx fun h' t a b=>k h' ⟨t,a,b⟩) fun h' ⟨t,a,b⟩ z=>hQ h' t (.of a z) b
theorem sf{base:Heap}{env:Env}{l:List Env}{L e:Addr}{cls:Value}(hf:env.frame=some L)(hh:HeldC Hf base l e cls a0 L s.heap)
  (hE:∀h',HeldC Hf base l e cls a0 L h'→s.heap.UpToSlots h'→E (.ref e) {s with heap:=h'}):cameBackBy M A env E (.ref e) s:=by
 obtain⟨hkb,hen,hl,⟨oe,vs,T,oT,ts,he,hcls,hd,h1,hnT,hTe,hT,hdT,h3⟩,c0⟩:=hh
 have hsz3:3 < ts.size:=(Array.getElem?_eq_some_iff.mp h3).1
 have other:∀b,b≠T→(s.heap.update T (Obj.mapFields (·.setIfInBounds 3 ((some L).elim Value.none fun f=>rawInt f)))).get? b=s.heap.get? b:=
  fun b hb=>FE _ _ (Ne.symm hb)
 have noRecord:∀b o,s.heap.get? b=some o→(∀vs,o.data≠ .fields vs)→b≠T:=fun b o hb hnf q=>by
  rw[q,hT]at hb;injection hb with hb;subst hb;exact hnf ts hdT
 unfold cameBackBy
 refine zz0 (wpAny_field he hd h1 ?_)
 rw[if_neg (show ¬((Value.ref T == Value.none)=true)from by simp)]
 rw[hf]
 unfold setFlight
 refine zz0 (wpAny_field he hd h1 ?_)
 rw[if_pos (show(Value.ref T != Value.none)=true from by simp)]
 refine wpAny_setField hT hdT hsz3 (hE _ ⟨fun b o hbo=>(other b fun q=>by rw[q,hnT]at hbo;cases hbo).trans (hkb b o hbo),hen,
  hl.of_keeps fun b o hb hnf=>⟨o,(other b (noRecord b o hb hnf)).trans hb,rfl⟩,?_⟩ fun b o hb hnf=>⟨o.slots,(other b (noRecord b o hb hnf)).trans hb⟩)
 exact⟨⟨oe,vs,T,_,_,(other e (Ne.symm hTe)).trans he,hcls,hd,h1,hnT,hTe,Heap.get?_update_self _ hT (Obj.isFreed_of_fields (Obj.data_mapFields hdT _)),Obj.data_mapFields hdT _,by simp[hsz3]⟩,CtxN.upd c0 (yN (by decide))⟩
end
def mI(g:fK)(b:cI)(r:fO):List PyData→fO
 |[]=>fun _=>none
 |d::ds=>fun E=>(g d E).bind fun E1=>match r E1 with
  |some x=>some x
  |none=>match b E1 with
   |some (E2,.nx)=>mI g b r ds E2
   |some (E2,.ct)=>mI g b r ds E2
   |_=>none
def LF(it:kX)(g:fK)(b:cI)(r:fO):fO:=fun E=>(it E).bind fun a=>mI g b r a.1 a.2
def Ek(X:Cx)(mk:Bool)(n:Str)(B:Hp)(E':List Sl)(e:Value)(s':Shared):Prop:=∃pins σ C H' ea,e=.ref ea∧nsIn X.K mainGlobals n=some (some (.ref C))∧Frm X.K B σ H' E' [] []∧
 ((mk=true∧∃s h' vs,Inv X pins σ H' s∧Heap.MadeExcOf s.heap h' ea (.ref C) vs∧s'={s with heap:=h'})∨
  (∃H s a0 Bb,Inv X pins σ H s∧s'.os=s.os∧AllBare s'.gens∧FlyC H' Bb X.stack ea (.ref C) a0 s'.heap∧HOk X.prog X.w H' Bb∧UnB (iz X.stack) H H' s.heap Bb s'.heap)∨
  (∃H s a0 Bb,Inv X pins σ H s∧s'.os=s.os∧AllBare s'.gens∧HeldC H' Bb X.stack ea (.ref C) a0 X.env.locals s'.heap∧HOk X.prog X.w H' Bb∧UnB (iz X.stack) H H' s.heap Bb s'.heap))
theorem El{n:Str}{B:Hp}(hst:X.stack=X.env::X.outer)(hfr:X.env.frame=some X.env.locals):PassesOwn (model X.prog X.w) X.A X.env (Ek X mk n B E'):=by
 intro e s' h
 obtain⟨pins,σ,C,H',ea,rfl,ns,fr,h⟩:=h
 have came:∀(s1:Shared) (H:Hp) (s:Shared) (a0:Value) (Bb:Heap),Inv X pins σ H s→s1.os=s.os→AllBare s1.gens→HeldC H' Bb X.stack ea (.ref C) a0 X.env.locals s1.heap→HOk X.prog X.w H' Bb→UnB (iz X.stack) H H' s.heap Bb s1.heap→cameBackBy (model X.prog X.w) X.A X.env (Ek X mk n B E') (.ref ea) s1:=fun s1 H s a0 Bb I os bare hh hok u=>
  sf hfr hh fun h2 x1 x2=>⟨pins,σ,C,H',ea,rfl,ns,fr,.inr (.inr ⟨H,s,a0,Bb,I,os,bare,x1,hok,u.on hh.2.2.1 x2⟩)⟩
 show wpAny _ _ (noteFrame _ _) _ _ _
 rcases h with⟨hm,s,h',vs,I,hx,rfl⟩ |⟨H,s,a0,Bb,I,os,bare,fl,hok,u⟩ |⟨H,s,a0,Bb,I,os,bare,hh,hok,u⟩
 ·have st:=I.stack
  have hin:∀env∈X.stack,∀b,env.frame=some b→b∈iz X.stack:=fun env he b hb=>List.mem_filterMap.mpr ⟨env,he,hb⟩
  have ff:=funFrames_hide st hin
  refine yS (Hf:=H') (base:=hideAll s.heap (iz X.stack)) (h:=s.heap) (outer:=X.outer) (by rw[I.ok.frames,hst]) hfr (fun b o q=>of_hideAll _ q) (hst▸ff) hx fun h2 t x1 x2=>?_
  refine came {s with heap:=h2} H' s (.ref t) _ I rfl I.bare (hst▸x1) (fun a o e=>?_) ⟨fun b o e n hb=>hideAll_get _ e hb,fun b o e n hb=>?_,fun _ _ _ n=>n,fun b o e hb=>⟨o,hideAll_get _ e hb⟩,fun _ _ e=>e,fun _ _ _ e=>e,fun _ _ e=>e⟩
  ·refine(I.hok a o e).stay (fun b u hb q=>hideAll_get _ q fun z=>?_) (fun _ q=>q) fun _ _ q=>q
   have n:=I.stkFree b z
   rcases hb with rfl |hb
   ·rw[n]at e;cases e
   ·rw[n]at hb;cases hb
  ·obtain⟨_,o',ho',hd⟩:=st.mem hb
   rw[e]at ho'
   cases ho'
   exact x2 b o (hx.keeps b o e) hd
 ·refine kN (outer:=X.outer) (by rw[I.ok.frames,hst]) hfr (hst▸fl) fun h2 x1 x2=>?_
  exact came {s' with heap:=h2} H s a0 Bb I os bare (hst▸x1) hok (u.on fl.2.2.1 x2)
 ·exact wpAny_noteFrame_againW hfr hh.2.2.2.1 (came s' H s a0 Bb I os bare hh hok u)
theorem JI{tg:Expr}{g:fK}{b:cI}{r:fO}{pos:Pos}(hst:X.stack=X.env::X.outer)(hfr:X.env.frame=some X.env.locals)(hc:X.calm=true)(hi:∀W,IX (X.wish W) tg iter m it)(hg:∀W,GX (X.wish W) tg g)(hb:vF X.nox body b)(hr:∀W,Ed (X.wish W) mk true body r)
  (hs:∀x,foldedSetIterable iter X.env x=pure x:=by intro _;rfl):RX X mk true (.For tg iter body [] pos) (LF it g b r):=fun pins s σ H B E n E' I fr e k=>by
 obtain⟨⟨ds,E1⟩,e1,e⟩:=Za.mp e
 have hbW:PSs (X.wish (Ek X mk n B E')) body (rs X.K b):=fun pins s σ H D I hw=>
  zz2 (hb pins s σ H D (I.unwish.wish _) hw) (fun _ _ q=>SP.unwish (X:=X) q |> fun z=>by
   rename_i f s'
   cases f with
   |next=>obtain⟨σ',H',I,q⟩:=z;exact⟨σ',H',I.wish _,q⟩
   |brk=>obtain⟨σ',H',I,q⟩:=z;exact⟨σ',H',I.wish _,q⟩
   |cont=>obtain⟨σ',H',I,q⟩:=z;exact⟨σ',H',I.wish _,q⟩
   |ret u=>obtain⟨v,σ',H',I,r,q⟩:=z;exact⟨v,σ',H',I.wish _,r,q⟩) fun _ _ z=>z.elim
 have hbody:PSs (X.wish (Ek X mk n B E')) body (fun D σ H=>rs X.K b D σ H∨∃B' Ei,Same B B'∧Frm X.K B' σ H Ei [] []∧r Ei=some (n,E')):=fun pins s σ H D I hw=>by
  rcases hw with hw |⟨B',Ei,sb,fri,er⟩
  ·exact hbW pins s σ H D I hw
  ·refine zz2 (hr _ pins s σ H B' Ei n E' I fri er fun pp _ σ' C H' ns fr'=>⟨fun hm=>?_,?_,fun _=>?_⟩) (fun _ _ z=>z.elim) fun _ _ z=>z
   ·exact fun s h' ea vs I hx=>⟨pp,σ',C,H',ea,rfl,ns,fr'.base sb,.inl ⟨hm,s,h',vs,I.unwish,hx,rfl⟩⟩
   ·exact fun H s ea s' a0 Bb I os bare fl hok u=>⟨pp,σ',C,H',ea,rfl,ns,fr'.base sb,.inr (.inl ⟨H,s,a0,Bb,I.unwish,os,bare,fl,hok,u⟩)⟩
   ·exact fun H s ea s' a0 Bb I os bare fl hok u=>⟨pp,σ',C,H',ea,rfl,ns,fr'.base sb,.inr (.inr ⟨H,s,a0,Bb,I.unwish,os,bare,fl,hok,u⟩)⟩
 have q:=CY (X:=X.wish (Ek X mk n B E')) (pos:=pos) (El hst hfr) hc (hi _) (hg _) hbody hs pins s σ H {nx:=fun _ _=>False,bk:=fun _ _=>False,ct:=fun _ _=>False,rt:=fun _ _=>False} (I.wish _) (by
  refine⟨B,E,[],[],ds,E1,fr,fun _=>Calm.nil rfl,e1,fun B' J H1 hB fr1 ok=>?_⟩
  refine⟨fun i mm σ' H'=>mm=ds.length - i∧i≤ds.length∧∃Ei,mI g b r (ds.drop i) Ei=some (n,E')∧Frm X.K B' σ' H' Ei [] [],⟨ds.length,by simp,zz9 _,E1,by simpa using e,fr1⟩,?_⟩
  rintro i mm σ' H' ⟨rfl,hi,Ei,ei,F,A,fri⟩
  obtain⟨go,stop⟩:=ok i (Same.refl _) fri
  by_cases hlt:i < ds.length
  ·obtain⟨d,ed⟩:∃d,ds[i]? =some d:=⟨ds[i],vH hlt⟩
   obtain⟨g1,yl⟩:=go d ed
   have edr:ds.drop i=d::ds.drop (i+1):=by
    rw[FK hlt]
    congr 1
    exact Option.some.inj ((vH hlt).symm.trans ed)
   rw[edr]at ei
   obtain⟨E3,e3,ei⟩:=Za.mp ei
   refine .inr ⟨g1,fun σ2 H2=>∃Ej,mI g b r (ds.drop (i+1)) Ej=some (n,E')∧Frm X.K B' σ2 H2 Ej [] [],fun σ2 H2 ⟨Ej,ej,frj⟩=>⟨ds.length - (i+1),by omega,rfl,hlt,Ej,ej,frj⟩,fun x H2 y=>?_⟩
   refine⟨B',Ei,[],[],d,E3,yl x H2 y,Still.nil rfl,e3,fun σ3 H3 fr3=>?_⟩
   split at ei
   ·rename_i x er
    cases ei
    exact .inr ⟨B',E3,hB,fr3,er⟩
   ·split at ei
    ·rename_i E2 eb
     exact .inl ⟨B',E3,[],[],E2,.nx,fr3,rfl,eb,fun σ4 H4 fr4=>⟨E2,ei,fr4⟩⟩
    ·rename_i E2 eb
     exact .inl ⟨B',E3,[],[],E2,.ct,fr3,rfl,eb,fun σ4 H4 fr4=>⟨E2,ei,fr4⟩⟩
    ·cases ei
  ·have e0:i=ds.length:=by omega
   rw[e0,List.drop_length]at ei
   cases ei)
 refine zz2 q (fun f s1 z=>?_) fun e1 s1 z=>?_
 ·cases f with
  |next=>obtain⟨_,_,_,z⟩:=z;exact z
  |brk=>obtain⟨_,_,_,z⟩:=z;exact z
  |cont=>obtain⟨_,_,_,z⟩:=z;exact z
  |ret u=>obtain⟨_,_,_,_,_,z⟩:=z;exact z
 ·obtain⟨pp,σ',C,H',ea,rfl,ns,fr',z⟩:=z
  obtain⟨k1,k2,k3⟩:=k pp (fun h=>nomatch h) σ' C H' ns fr'
  rcases z with⟨hm,s2,h2,vs,I2,hx,rfl⟩ |⟨H2,s2,a0,Bb,I2,os,bare,fl,hok,u⟩ |⟨H2,s2,a0,Bb,I2,os,bare,fl,hok,u⟩
  ·exact k1 hm s2 h2 ea vs I2 hx
  ·exact k2 H2 s2 ea s1 a0 Bb I2 os bare fl hok u
  ·exact k3 rfl H2 s2 ea s1 a0 Bb I2 os bare fl hok u
end PL
namespace PL
open PySem PySem.Spec PyProof.Rows L2 Nh
theorem tY:∀{bs:List Bool} {us:List Value},Vals (bs.map .bl) us→us=bs.map Value.bool
 |[],_,h=>by cases h;rfl
 |b::bs,_,h=>by
  cases h with
  |cons r t=>
   have e:=tY t
   cases r
   rw[e]
   rfl
theorem wz(b:Bool):Aa (.bl true) (.bool b)=b:=by cases b <;> rfl
def GM:V→List V→Hp→VK→Prop:=fun x vs H Q=>∃(l:Addr) (bs:List Bool),x=.ref l∧vs=[.bl true]∧H l=some (.lst (bs.map V.bl))∧Q (.int ((bs.countP id:Nat):Int)) H
def GN:V→List V→Hp→VK→Prop:=fun x vs H Q=>∃(l:Addr) (bs:List Bool),x=.ref l∧vs=[.bl true]∧H l=some (.lst (bs.map V.bl))∧bs.findIdx id < bs.length∧bs.length≤1000∧Q (.int ((bs.findIdx id:Nat):Int)) H
section
variable {X:Cx}
theorem B6:K_ X "list.count" GM:=by
 intro pins s σ H x vs v us Q I rx rv h
 obtain⟨l,bs,rfl,rfl,hH,q⟩:=h
 cases rx
 obtain⟨u,rfl,ru⟩:=rv.one
 obtain⟨z,its,n,r,hl,e⟩:=I.lstM hH
 have ei:=tY r
 refine call_meets F.slot_list_count ⟨_,e,rfl⟩ F.entry_list_count (F.args_list_count_2 _ _) (SeqAt.list_countAt l its.toArray n none #[] u (Aa (.bl true))) ⟨e,fun y hy=>jV ru rfl r (by simp[List.all_eq_true,iB]) y (by simpa using hy),?_⟩
 refine⟨.int _,H,I.tok _,⟨_,rfl⟩,?_⟩
 have k:its.toArray.toList.countP (Aa (.bl true))=bs.countP id:=by
  rw[List.toList_toArray,ei,List.countP_map]
  congr 1
  funext b
  exact wz b
 rw[k]
 exact q
theorem B7:K_ X "list.index" GN:=by
 intro pins s σ H x vs v us Q I rx rv h
 obtain⟨l,bs,rfl,rfl,hH,hj,hl0,q⟩:=h
 cases rx
 obtain⟨u,rfl,ru⟩:=rv.one
 obtain⟨z,its,n,r,hl,e⟩:=I.lstM hH
 have ei:=tY r
 have hlen:its.length=bs.length:=by rw[ei,eM]
 have at_:∀m (hm:m < its.toArray.size),Aa (.bl true) its.toArray[m]=bs[m]'(by simpa[hlen]using hm):=fun m hm=>by
  subst ei
  simp only[List.getElem_toArray,List.getElem_map]
  exact wz _
 refine call_meets F.slot_list_index ⟨_,e,rfl⟩ F.entry_list_index (F.args_list_index_2 _ _) (SeqAt.list_indexAt l its.toArray n none #[] u (Aa (.bl true)) (bs.findIdx id) (by simpa[hlen]using hj) (by omega) ?_ fun m hm h2=>?_) ⟨e,fun y hy=>jV ru rfl r (by simp[List.all_eq_true,iB]) y (by simpa using hy),?_⟩
 ·rw[at_]
  exact List.findIdx_getElem (w:=hj)
 ·rw[at_]
  simpa using List.not_of_lt_findIdx h2
 ·exact⟨.int _,H,I.tok _,⟨_,rfl⟩,q⟩
end
def tZ(i:Nat):ba:=fun E=>match E[i]? with
 |some (.ow ds)=>(gI ds).map fun bs=>(.sh (.int ((bs.countP id:Nat):Int)),E)
 |_=>none
def t_(i:Nat):ba:=fun E=>match E[i]? with
 |some (.ow ds)=>(gI ds).bind fun bs=>if bs.findIdx id < bs.length∧bs.length≤1000 then some (.sh (.int ((bs.findIdx id:Nat):Int)),E)else none
 |_=>none
section
variable {X:Cx} {x:Str} {p p2 apos cpos:Pos} {j:Nat}
theorem B8(i:Nat) (hN:X.N[i]? =some x:=by rfl) (hv:Bl X.env.scope x:=by first |exact Or.inl rfl |exact Or.inr (Or.inl rfl) |exact Or.inr (Or.inr rfl)) (hd:(x == ("__debug__":Str))=false:=by decide) (hcd:(x == ("__classdict__":Str))=false:=by decide)
  (hs:starEach [.Constant (.bool true) j p2] X.env=[(false,eval (.Constant (.bool true) j p2) X.env)]:=by rfl) (hbase:attributeBase (.Name x p) "count" X.env (eval (.Name x p) X.env)=eval (.Name x p) X.env:=by rfl)
  (hfew:((backTo cpos (starEach [.Constant (.bool true) j p2] X.env)).all (fun x=> !x.1)&&(backToKw cpos (keywordEach [] X.env)).all (fun x=>x.1.isSome)
   &&decide (([Expr.Constant (.bool true) j p2]:List Expr).length+([]:List Keyword).length+(if ([]:List Keyword).isEmpty then 0 else 1) < 30))=true:=by rfl) (hline:(apos.endLine == cpos.line)=true:=by rfl):
  EX X (.Call (.Attribute (.Name x p) "count" apos) [.Constant (.bool true) j p2] [] cpos) false (tZ i):=by
 refine bA (vM PySem.F.plainAttrs_list PySem.F.slot_list_count PySem.F.type_list_count B6 (lr hN hv hd hcd) (bU CQ d0 hs) hbase hfew hline hs rfl) fun σ H Q z=>?_
 obtain⟨B,E,xs,Xs,res,E',⟨F,A,fr⟩,cl,e,q⟩:=z
 unfold tZ at e
 split at e
 ·rename_i ds ei
  obtain⟨bs,eb,e⟩:=Zab.mp e
  cases e
  obtain⟨o,A1,eo,l,vs,rfl,rfl,hl0,r⟩:=fr.var ei
  have z:=mq r eb
  subst z
  exact⟨_,eo,.inl ⟨rfl,_,SqL.of hl0⟩,l,bs,rfl,rfl,hl0,q _ _ ⟨F,A,fr.push ⟨rfl,_,rfl,.int _⟩⟩⟩
 ·cases e
theorem B9(i:Nat) (hN:X.N[i]? =some x:=by rfl) (hv:Bl X.env.scope x:=by first |exact Or.inl rfl |exact Or.inr (Or.inl rfl) |exact Or.inr (Or.inr rfl)) (hd:(x == ("__debug__":Str))=false:=by decide) (hcd:(x == ("__classdict__":Str))=false:=by decide)
  (hs:starEach [.Constant (.bool true) j p2] X.env=[(false,eval (.Constant (.bool true) j p2) X.env)]:=by rfl) (hbase:attributeBase (.Name x p) "index" X.env (eval (.Name x p) X.env)=eval (.Name x p) X.env:=by rfl)
  (hfew:((backTo cpos (starEach [.Constant (.bool true) j p2] X.env)).all (fun x=> !x.1)&&(backToKw cpos (keywordEach [] X.env)).all (fun x=>x.1.isSome)
   &&decide (([Expr.Constant (.bool true) j p2]:List Expr).length+([]:List Keyword).length+(if ([]:List Keyword).isEmpty then 0 else 1) < 30))=true:=by rfl) (hline:(apos.endLine == cpos.line)=true:=by rfl):
  EX X (.Call (.Attribute (.Name x p) "index" apos) [.Constant (.bool true) j p2] [] cpos) false (t_ i):=by
 refine bA (vM PySem.F.plainAttrs_list PySem.F.slot_list_index PySem.F.type_list_index B7 (lr hN hv hd hcd) (bU CQ d0 hs) hbase hfew hline hs rfl) fun σ H Q z=>?_
 obtain⟨B,E,xs,Xs,res,E',⟨F,A,fr⟩,cl,e,q⟩:=z
 unfold t_ at e
 split at e
 ·rename_i ds ei
  obtain⟨bs,eb,e⟩:=Za.mp e
  split at e
  ·rename_i hc
   cases e
   obtain⟨o,A1,eo,l,vs,rfl,rfl,hl0,r⟩:=fr.var ei
   have z:=mq r eb
   subst z
   exact⟨_,eo,.inl ⟨rfl,_,SqL.of hl0⟩,l,bs,rfl,rfl,hl0,hc.1,hc.2,q _ _ ⟨F,A,fr.push ⟨rfl,_,rfl,.int _⟩⟩⟩
  ·cases e
 ·cases e
end
def MY:ba:=fun E=>some (.sh (.dict []),E)
theorem LG{pos:Pos}:EX X (.Dict [] [] pos) false MY:=by
 refine bA DF fun σ H Q z=>?_
 obtain⟨B,E,xs,Xs,res,E',⟨F,A,fr⟩,c,e,q⟩:=z
 cases e
 intro p hp
 have fr2:=fr.grow (gW hp (.dK []))
 exact q _ _ ⟨_,_,fr2.push ⟨rfl,_,rfl,.dct (.inl (by show(if p∈A then none else _)=_;rw[if_neg (fr.newA hp)];exact upd_same)) .nil⟩⟩
end PL
namespace PL
open PySem PySem.Spec PyProof.Rows L2 Nh
def Ax(t ea:Addr):Array Value:=#[.ref t,.none,.ref ea,.none,.bool true,.none]
section
variable {prog:Program} {w:World} {A:Around} {E:Value→Shared→Prop} {env:Env}
variable {nm q:Str} {C N:Addr} {bs bm:List Value} {hdct:Bool} {sn:List Str} {sub:List Value} {ab:Bool} {col:Option Bool} {dd:Option Addr} {k0 k1 k2 k3 k5:Option Value} {B newId initId:String} {bmB:List Value}
theorem GO{s:Shared} {e:Addr} {vs:Array Value} {msg:String}  (hbase:bm.contains (.type "BaseException")=true) (hC:s.heap.get? C=some (excClassObj nm q C N bs bm hdct sn sub ab col dd k0 k1 k2 k3 k5 newId)) (he:s.heap.get? e=some {cls:=.ref C,data:=.fields vs}) (hQ:Q (.ref e) s):
  wpAny (model prog w) A (excFromValue (.ref e) msg) Q E s:=by
 have hcB:(Value.ref C::bm).contains (.type "BaseException")=true:=by rw[List.contains_cons,hbase,Bool.or_true]
 obtain⟨hp,g,d,tk,os⟩:=s
 unfold excFromValue
 repeat (first |with_reducible refine wpAny_loadPart_at he ?_ |with_reducible refine wpAny_loadPart_at hC ?_ |(with_reducible refine wpAny_isSubtype_exc hC ?_;rw[hcB]) |wp_step)
 exact hQ
theorem NJ{s:Shared}{e:Addr}{vs:Array Value}{k:Bool→Sem α}{Q:α→Shared→Prop}(he:s.heap.get? e=some {cls:=.ref C,data:=.fields vs})(hQ:wpAny (model prog w) A (k false) Q E s):wpAny (model prog w) A (isType (.ref e) >>= k) Q E s:=by
 refine zz0 ?_
 simp only[isType,loadHead]
 exact zz0 (wpAny_loadPart he (zz1 hQ))
theorem MZ{s:Shared}{e:Addr}{vs:Array Value}{k:Value→Sem α}{Q:α→Shared→Prop}(hC:s.heap.get? C=some (excClassObj nm q C N bs bm hdct sn sub ab col dd k0 k1 k2 k3 k5 newId))(he:s.heap.get? e=some {cls:=.ref C,data:=.fields vs})(hQ:wpAny (model prog w) A (k (.ref e)) Q E s):wpAny (model prog w) A (raisedInstance (.ref e) >>= k) Q E s:=by
 refine zz0 ?_
 obtain⟨hp,g,d,tk,os⟩:=s
 unfold raisedInstance
 repeat (first |with_reducible refine wpAny_loadPart_at he ?_ |with_reducible refine wpAny_loadPart_at hC ?_ |wp_step)
 exact hQ
theorem p8{s:Shared} {x c:Sem Value} {Q:Flow→Shared→Prop}  (hbase:bm.contains (.type "BaseException")=true) (hh:A.handled=some (.ref ea))
  (h:wpAny (model prog w) A x (fun v s₁=>∃e t oe L,v=.ref e∧s₁.heap.get? C=some (excClassObj nm q C N bs bm hdct sn sub ab col dd k0 k1 k2 k3 k5 newId)∧
   s₁.heap.get? e=some {cls:=.ref C,data:=.fields #[.ref t,.none,.none,.none,.bool false,.none]}∧ChainP ((ea,oe)::L)∧(∀p∈(ea,oe)::L,s₁.heap.get? p.1=some p.2∧p.1≠e)∧
   ∀h',h'.get? e=some {cls:=.ref C,data:=.fields (Ax t ea)}→Heap.SameBut e s₁.heap h'→E (.ref e) {s₁ with heap:=h'}) E s)
  (hc:∀{Q':Value→Shared→Prop} {s₁:Shared},Q' .none s₁→wpAny (model prog w) A c Q' E s₁):wpAny (model prog w) A (raiseStmt env (some x) (some c)) Q E s:=by
 unfold raiseStmt
 refine zz0 (zz2 h (fun v s₁ h₁=>?_) fun _ _ x=>x)
 obtain⟨e,t,oe,L,rfl,hC,he,hch,hnd,hE⟩:=h₁
 have nC:C≠e:=fun z=>by rw[z,he]at hC;cases hC
 refine zz0 (zz7 (hc ?_))
 refine zz0 (zz1 ?_)
 dsimp only
 refine zz0 (zz7 (GO hbase hC he ?_))
 rw[if_pos (show(Value.none == Value.none)=true from rfl)]
 refine zz0 (zz1 ?_)
 refine zz0 (wpAny_setField_rec he (by simp) fun h1 he1 hs1=>?_)
 refine zz0 (wpAny_setField_rec he1 (by simp) fun h2 he2 hs2=>?_)
 have sb:Heap.SameBut e s₁.heap h2:=hs1.trans hs2
 have he2':h2.get? e=some {cls:=.ref C,data:=.fields #[.ref t,.none,.none,.none,.bool true,.none]}:=he2
 have hC2:h2.get? C=some (excClassObj nm q C N bs bm hdct sn sub ab col dd k0 k1 k2 k3 k5 newId):=(sb.2 C nC).trans hC
 refine NJ he2' ?_
 simp only[iy]
 refine MZ hC2 he2' ?_
 unfold setFlight
 refine zz0 (zz0 (wpAny_field he2' rfl (x:=.none) rfl ?_))
 rw[if_neg (by decide)]
 refine zz1 ?_
 unfold raiseNew
 refine zz0 (wpAny_handled ?_)
 rw[hh]
 simp only
 have ne:(Value.ref ea != Value.ref e)=true:=bne_iff_ne.mpr fun z=>(hnd _ (gE ..)).2 (Value.ref.inj z)
 rw[if_pos ne]
 refine zz0 (zz7 (Eb hch (fun p hp=>(sb.2 p.1 (hnd p hp).2).trans (hnd p hp).1) (fun p hp z=>(hnd p hp).2 (Value.ref.inj z)) ?_))
 show wpAny _ _ (setField (.ref e) 2 (.ref ea) >>= _) _ _ _
 refine zz0 (wpAny_setField_rec he2' (by simp) fun h3 he3 hs3=>?_)
 exact wpAny_throw (hE h3 he3 (sb.trans hs3))
theorem yT{s:Shared}(F:ExcBaseFacts B newId initId bmB){mN:Str→Option Value}{cpos pos:Pos}{j2:Nat}{args:List Expr}{Q:Flow→Shared→Prop}{L:List (Addr×Obj)}
  (hbase:bm.contains (.type "BaseException")=true) (hh:A.handled=some (.ref ea)) (hch:ChainP ((ea,oe)::L)) (hplain:(backTo cpos (starEach args env)).any (·.1)=false) (hni:mN "__init__"=none)
  (h:wpAny (model prog w) A (eval (.Name x np) env) (fun f s₁=>f=.ref C∧wpAny (model prog w) A (evalArgs (.ref C) true (backTo cpos (starEach args env)) [])
   (fun a s₂=>a.kw=[]∧a.pos.length≤sizeLine∧s₂.heap.get? C=some (excClassObj nm q C N bs bm hdct sn sub ab col dd k0 k1 k2 k3 k5 newId)∧s₂.heap.Ns N mN∧OwnTail s₂.heap bmB bm∧(∀p∈(ea,oe)::L,s₂.heap.get? p.1=some p.2)∧
    ∀h' h'' e t,Heap.MadeExcOf s₂.heap h' e (.ref C) a.pos→h''.get? e=some {cls:=.ref C,data:=.fields (Ax t ea)}→Heap.SameBut e h' h''→E (.ref e) {s₂ with heap:=h''}) E s₁) E s):
  wpAny (model prog w) A (exec (.Raise (some (.Call (.Name x np) args [] cpos)) (some (.Constant .none j2 p2)) pos) env) Q E s:=by
 rw[arm_exec_Raise]
 simp only[evalOpt,Option.map]
 refine zz0 (wpAny_standAt (p8 (C:=C) (nm:=nm) (q:=q) (N:=N) (bs:=bs) (bm:=bm) (hdct:=hdct) (sn:=sn) (sub:=sub) (ab:=ab) (col:=col) (dd:=dd) (k0:=k0) (k1:=k1) (k2:=k2) (k3:=k3) (k5:=k5) (newId:=newId) hbase hh ?_ fun q=>zz0 (wpAny_Constant_none (zz0 (wpAny_standAt (zz1 q))))))
 refine zz0 (zz2 (wpAny_Call_ofName (zz2 h (fun f s₁ h₁=>?_) fun _ _ x=>x)) (fun v s₃ h₃=>zz0 (wpAny_standAt (zz1 h₃))) fun _ _ x=>x)
 obtain⟨rfl,h₁⟩:=h₁
 unfold callWith
 refine zz0 (zz7 (zz2 h₁ (fun a s₂ h₂=>zz0 (wpAny_standAt ?_)) fun _ _ x=>x))
 obtain⟨apos,akw⟩:=a
 obtain⟨hkw,hlen,hC,hn,T,hnd,h₂⟩:=h₂
 obtain rfl:akw=[]:=hkw
 obtain⟨hp,g,d,tk,os⟩:=s₂
 simp only[hplain]
 refine zz0 (wpAny_keeperOf_exc hC ?_)
 refine zz0 (wpAny_call_exc_subT (hrest:=hlen) F T hC hn hni fun h' e hm=>zz0 (zz7 (wpAny_point (zz1 ?_))))
 obtain⟨t,ht,_,_⟩:=hm.there
 exact⟨e,t,oe,L,rfl,hm.keeps _ _ hC,ht,hch,fun p hp=>⟨hm.keeps _ _ (hnd p hp),fun z=>by have:=hnd p hp;rw[z]at this;have n:=hm.new;rw[this]at n;cases n⟩,fun h'' a b=>h₂ h' h'' e t hm a b⟩
end
def p9(ok:List Str)(n2:Str)(r:fO):fO:=fun E=>match r E with
 |some (n,E')=>if n∈ok then some (n2,E')else none
 |none=>none
theorem B_{σ:L2.St}{H:Hp}{s:Shared}(I:Inv (KC X ea) pins σ H s)(ok:X.Ok):Inv X pins σ H s:=
 ⟨ok,I.os,I.bare,I.base,I.loc,I.cell,I.free,I.freeC,I.pin,I.hok,I.len⟩
theorem GP{cn x2 tx:Str}{CH C2:Addr}{hpos pos np2 cpos rpos:Pos}{j2:Nat}{ok:List Str}{r:fO}(hex:X.ex=[])(hst:X.stack=X.env::X.outer)(hfr:X.env.frame=some X.env.locals)(hg:Gl X cn)(hm:X.mg cn=some (.ref CH))
  (hok:∀n∈ok,∀C,nsIn X.K mainGlobals n=some (some (.ref C))→exmOne X.K (.ref C) (.ref CH)=some true) (hr:∀W,Ed (X.wish W) false false body r) (hg2:Gl X x2) (Z:XC X.K X.mg x2 C2) (hdb:(cn == ("__debug__":Str))=false:=by decide) (vE:(x2 == ("__debug__":Str))=false:=by decide)
  (he:starEach [.Constant (.str tx) j p] X.env=[(false,eval (.Constant (.str tx) j p) X.env)]:=by rfl):
  RX X mk true (.Try body [.ExceptHandler (some (.Name cn np)) none [.Raise (some (.Call (.Name x2 np2) [.Constant (.str tx) j p] [] cpos)) (some (.Constant .none j2 p2)) rpos] hpos] [] [] pos) (p9 ok x2 r):=fun pins s σ H B E n E' I fr e k=>by
 unfold p9 at e
 split at e
 rotate_left
 ·cases e
 rename_i n1 E1 er
 split at e
 rotate_left
 ·cases e
 rename_i hc
 cases e
 refine wpAny_Try_except (zz2 (hr (fun e s₁=>wpAny (model X.prog X.w) X.A (noteFrame e X.env) (fun _ s₂=>wpAny (model X.prog X.w) X.A (setFlight e none) (fun _ s₃=>wpAny (model X.prog X.w) X.A (handleBy e X.env [.ExceptHandler (some (.Name cn np)) none [.Raise (some (.Call (.Name x2 np2) [.Constant (.str tx) j p] [] cpos)) (some (.Constant .none j2 p2)) rpos] hpos]) (fun _ _=>False) X.xe s₃) X.xe s₂) X.xe s₁) pins s σ H B E n1 E' (I.wish _) fr er fun pp hp σ' C H' ns fr'=>⟨fun z=>(nomatch z),?_,fun z=>(nomatch z)⟩) (fun _ _ z=>z.elim) fun _ _ z=>z)
 cases hp rfl
 intro H1 s1 ea s' a0 Bb I1 os bare fly hokB u
 have I1:Inv X pins σ' H1 s1:=I1.unwish
 have ff:s'.heap.FunFrames Bb X.stack:=fly.2.2.1
 have fly':FlyC H' Bb (X.env::X.outer) ea (.ref C) a0 s'.heap:=hst▸fly
 have invAt:∀h5,Bb.StaysIn h5→s'.heap.UpToSlots h5→Inv X pins σ' H' {s' with heap:=h5}:=fun h5 st k=>by
  have u2:UnB (iz X.stack) H1 H' s1.heap Bb h5:=u.on ff k
  exact I1.call' (s':={s' with heap:=h5}) os (u2.un st I1.stkFree) (hokB.kept fun b o e=>st b o e) bare fun b z=>(nomatch z)
 refine kN (by rw[I1.ok.frames,hst]) hfr fly' fun h4 held4 k4=>?_
 refine yR held4 fun h5 fly5 k5=>?_
 have I5:=invAt h5 fly5.1 (k4.trans k5)
 obtain⟨ob,hob,hobc⟩:=fly5.there
 have Z5:fM ea C h5:=⟨ob,hob,hobc⟩
 refine wpAny_handleBy_cons (codeAny_handlers_test (fX (X:=KC X ea) (mH I5) hg hm ?_ hdb)) (by intro q;cases q)
 refine(PySem.W.exm_one (I5.kIn) (lH Z5) (hok n1 hc C ns)).here ?_
 refine codeAny_handlers_suite ?_
 refine mG fly5 fun h6 fly6 k6=>?_
 have I6:=invAt h6 fly6.1 ((k4.trans k5).trans k6)
 obtain⟨oe,vs,hoe,hoec,hoed,_⟩:=fly6.first
 have nB:Bb.get? ea=none:=fly6.2.1
 have hn6:H' ea=none:=by
  cases q:H' ea with
  |none=>rfl
  |some o=>
   obtain⟨z,e⟩:=oG (hokB ea o q)
   rw[nB]at e
   cases e
 obtain⟨ps,hcp,cv,r1,r2⟩:=fly6.2.2.2.2
 have hchn:ChainP ((ea,oe)::ps):=by
  obtain⟨o,ws,ho,hd,h2⟩:=cv
  rw[hoe]at ho
  cases ho
  exact⟨⟨ws,hd,h2⟩,r2,hcp⟩
 have pk:∀q∈(ea,oe)::ps,ww X H' h6 q:=fun q hq=>by
  obtain⟨ws,hd,_⟩:=jk hchn hq
  have gq:h6.get? q.1=some q.2∧H' q.1=none:=by
   rcases Zag.mp hq with z |z
   ·subst z;exact⟨hoe,hn6⟩
   ·exact⟨fly6.1 q.1 q.2 (r1 q z).1,(r1 q z).2⟩
  refine⟨gq.1,gq.2,fun z=>?_,fun z=>?_,fun v z=>by rw[hd]at z;cases z⟩
  ·obtain⟨_,⟨o,_,_,ho,hdo,_⟩,_⟩:=I6.loc
   rw[←z]at ho
   have:=gq.1.symm.trans ho
   injection this with this
   rw[←this,hd]at hdo
   cases hdo
  ·have hz:q.1∈iz X.stack:=by rw[hst];unfold iz;rw[List.filterMap_cons,hfr];exact gQ _ z
   obtain⟨_,o',ho',hdn⟩:=(show h6.FunFrames Bb X.stack from hst▸fly6.2.2.1).mem hz
   rw[gq.1]at ho'
   cases ho'
   exact hdn ws hd
 have I6p:=LD I6 pk
 obtain⟨tl,N,nm,qq,bs,hdct,sn,sub,ab,col,dd,k0,k1,k2,k3,k5,mN,hC,hN,hni,T⟩:=(Ee I6.ok.mod.kin Z.mg Z.ex).obj
 refine wpAny_execs_cons (zz2 (yT (Q:=fun _ _=>False) (C:=C2) (nm:=nm) (q:=qq) (N:=N) (bs:=bs) (bm:=tl) (hdct:=hdct) (sn:=sn) (sub:=sub) (ab:=ab) (col:=col) (dd:=dd) (k0:=k0) (k1:=k1) (k2:=k2) (k3:=k3) (k5:=k5) (mN:=mN) (ea:=ea) (oe:=oe) (L:=ps)
  PySem.F.excBase_ValueError (T.hasType PySem.F.excBase_ValueError.hasBase) rfl hchn (by rw[he];rfl) hni (fX (X:=KC X ea) (mH I6p) hg2 Z.mg ⟨rfl,?_⟩ vE)) (fun _ _ z=>z.elim) fun _ _ z=>z)
 have q1:=bU (X:=KC X ea) (sU (x:=tx) (j:=j) (pos:=p)) d0 he cpos _ _ σ' H' (fun vs H1=>vs=[.str tx]∧H1=H') (mH I6p) ⟨rfl,rfl⟩
 rw[he]at q1 ⊢
 refine Calls.evalArgs_plain (zz2 q1 (fun vs s2 z=>?_) fun _ _ z=>z.elim)
 obtain⟨us,H2,I2,rv,eu,eH⟩:=z
 subst eu eH
 have I2:=B_ I2 I6.ok
 obtain⟨I2,pk2⟩:=LE I2
 refine⟨rfl,by rw[←rv.length];exact Nat.le_of_ble_eq_true rfl,I2.bk _ _ hC,hN.keeps I2.bk,T.keeps I2.bk,fun q hq=>(pk2 q hq).1,fun h7 h8 e2 t hmd he2 sb=>?_⟩
 have st:=I2.stack
 have hin:∀env∈X.stack,∀b,env.frame=some b→b∈iz X.stack:=fun env he b hb=>List.mem_filterMap.mpr ⟨env,he,hb⟩
 have ffh:=funFrames_hide st hin
 have ne2:∀b o,s2.heap.get? b=some o→b≠e2:=fun b o e z=>by rw[z,hmd.new]at e;cases e
 have kp8:∀b o,s2.heap.get? b=some o→h8.get? b=some o:=fun b o e=>(sb.2 b (ne2 b o e)).trans (hmd.keeps b o e)
 have hen:(hideAll s2.heap (iz X.stack)).get? e2=none:=by
  cases hq:(hideAll s2.heap (iz X.stack)).get? e2 with
  |none=>rfl
  |some o'=>have:=of_hideAll _ hq;rw[hmd.new]at this;cases this
 have nfs:∀q∈(ea,oe)::ps,q.1∉iz X.stack:=fun q hq z=>by
  rcases Zag.mp (I2.stkSub q.1 z)with w |w
  ·exact(pk2 q hq).2.2.1 w
  ·exact(pk2 q hq).2.2.2.1 w
 have cx:CtxN H2 (hideAll s2.heap (iz X.stack)) e2 h8:=⟨(ea,oe)::ps,hchn,⟨_,_,he2,rfl,rfl⟩,fun q hq=>⟨hideAll_get _ (pk2 q hq).1 (nfs q hq),(pk2 q hq).2.1⟩,fun q hq=>ne2 _ _ (pk2 q hq).1⟩
 show wpAny _ _ (noteFrame _ _) _ _ _
 refine p7 (Hf:=H2) (base:=hideAll s2.heap (iz X.stack)) (P:=fun h'=>Heap.HeldW (hideAll s2.heap (iz X.stack)) (X.env::X.outer) e2 (.ref C2) (.ref t) X.env.locals h'∧h8.UpToSlots h') (pi _ _) cx (fun kk=>?_) fun h9 ⟨x1,x2⟩ z9=>?_
 ·have h1:(Ax t ea)[1]? =some Value.none:=rfl
  unfold noteFrame
  simp only[hfr]
  refine zz0 (wpAny_field he2 rfl h1 ?_)
  rw[if_neg (show ¬((Value.none != Value.none)=true)from by decide)]
  exact wpAny_entryW (a0:=.ref t) (by show X.A.frames=_;rw[I1.ok.frames,hst]) ((hst▸ffh:s2.heap.FunFrames (hideAll s2.heap (iz X.stack)) (X.env::X.outer)).of_keeps fun b o hb _=>⟨o,kp8 b o hb,rfl⟩) hfr he2 (fun b o hb=>kp8 b o (of_hideAll _ hb)) hen rfl (by simp[Ax]) rfl fun h' ⟨y1,y2,y3,y4⟩=>kk h' ⟨⟨y1,hen,y2,y3⟩,y4⟩
 ·have hh:HeldC H2 (hideAll s2.heap (iz X.stack)) X.stack e2 (.ref C2) (.ref t) X.env.locals h9:=by
   have q:=HeldC.of x1 z9
   rw[←hst]at q
   exact q
  refine sf hfr hh fun h10 y1 y2=>?_
  refine(k pins (fun z=>(nomatch z)) σ' C2 H2 Z.ns fr').2.2 rfl H2 s2 e2 {s2 with heap:=h10} (.ref t) _ I2 rfl I2.bare y1 (fun a o e=>?_) ⟨fun b o e n hb=>hideAll_get _ e hb,fun b o e n hb=>?_,fun _ _ _ n=>n,fun b o e hb=>⟨o,hideAll_get _ e hb⟩,fun _ _ e=>e,fun _ _ _ e=>e,fun _ _ e=>e⟩
  ·refine(I2.hok a o e).stay (fun b u hb q=>hideAll_get _ q fun z=>?_) (fun _ q=>q) fun _ _ q=>q
   have n:=I2.stkFree b z
   rcases hb with rfl |hb
   ·rw[n]at e;cases e
   ·rw[n]at hb;cases hb
  ·obtain⟨_,o',ho',hd⟩:=st.mem hb
   rw[e]at ho'
   cases ho'
   exact(x2.trans y2) b o (kp8 b o e) hd
end PL
namespace PL
open PySem PySem.Spec PyProof.Rows L2 Nh
def RE(X:Cx)(al:Bool)(e:Expr)(r:fO):Prop:=∀pins s σ H B E n E',Inv X pins σ H s→Frm X.K B σ H E [] []→r E=some (n,E')→
 (∀pins',(al=false→pins'=pins)→∀σ' C H',nsIn X.K mainGlobals n=some (some (.ref C))→Frm X.K B σ' H' E' [] []→B3 X C pins' σ' H'∧(al=true→wq X C pins' σ' H'))→wpAny (model X.prog X.w) X.A (eval e X.env) (fun _ _=>False) X.xe s
section
variable {X:Cx} {k:Nat} {x:Str} {ps:List Str} {r:fO} {p pos cpos:Pos} {e:Expr} {es:List Expr} {m al mk:Bool}
theorem mJ{q:List PyData→Option Str} {g:nq} (D:OwnR X.prog X.w X.K X.mg X.base k x ps (wu X.K q)) (hr:Room k X.A) (hg:Gl X x) (ha:AX X.nox (e::es) m g) (hdb:(x == ("__debug__":Str))=false:=by decide) (he:starEach (e::es) X.env=(false,eval e X.env)::starEach es X.env:=by rfl) (hpl:(backTo pos (starEach es X.env)).any (·.1)=false:=by rfl):
  RE X al (.Call (.Name x p) (e::es) [] pos) (ce q g):=fun pins s σ H B E n E' I fr ee k=>
 nJ D hr hg ha hdb he hpl I fr ee fun C H' z f=>(k pins (fun _=>rfl) σ C H' z f).1
theorem JJ(D:Own X.prog X.w X.K X.mg X.base k x ps sp) (hg:Gl X x) (h:RE X al e r) (hdb:(x == ("__debug__":Str))=false:=by decide) (he:starEach (e::es) X.env=(false,eval e X.env)::starEach es X.env:=by rfl) (hpl:(backTo pos (starEach es X.env)).any (·.1)=false:=by rfl):
  RE X al (.Call (.Name x p) (e::es) [] pos) r:=fun pins s σ H B E n E' I fr ee k=>by
 obtain⟨f,fd,F,b,mx,kp⟩:=D
 refine zz6 (fX I hg mx ?_ hdb)
 refine callWith_K (h₀:=X.base) I.ok.mod.kin kp ?_ he hpl
 rw[he]
 exact Calls.spliced_cons (zz2 (h pins s σ H B E n E' I fr ee k) (fun _ _ z=>z.elim) fun _ _ z=>z)
theorem Ay(h:RE X al e r):RX X mk al (.Return (some e) pos) r:=fun pins s σ H B E n E' I fr ee k=>
 wpAny_Return_some (dw (h pins s σ H B E n E' I fr ee fun pp q σ' C H' z f=>(k pp q σ' C H' z f).2) fun _ _ z=>z.elim)
theorem GQ{y:Str}(h:RE X al e r)(hs:swapsWith e (some (.Name y pos')) pos.line X.env=pure false:=by rfl):RX X mk al (.Assign [.Name y pos'] e pos) r:=fun pins s σ H B E n E' I fr ee k=>
 wpAny_Assign_Name (dw (h pins s σ H B E n E' I fr ee fun pp q σ' C H' z f=>(k pp q σ' C H' z f).2) fun _ _ z=>z.elim) hs
end
theorem GR{a b:Env}(h:a.frame=b.frame)(e:Value):noteFrame e a=noteFrame e b:=by
 unfold noteFrame PySem.frameOf
 rw[h]
section
variable {M:Model} {A:Around} {E:Value→Shared→Prop} {s:Shared}
theorem wA{base:Heap}{l:List Env}{L e:Addr}{cls:Value}{Q:Unit→Shared→Prop}(hh:HeldC Hf base l e cls a0 L s.heap)
  (hQ:∀h',HeldC Hf base l e cls a0 L h'→s.heap.UpToSlots h'→Q () {s with heap:=h'}):wpAny M A (setFlight (.ref e) (some L)) Q E s:=by
 obtain⟨hkb,hen,hl,⟨oe,vs,T,oT,ts,he,hcls,hd,h1,hnT,hTe,hT,hdT,h3⟩,c0⟩:=hh
 have hz:3 < ts.size:=(Array.getElem?_eq_some_iff.mp h3).1
 have other:∀b,b≠T→(s.heap.update T (Obj.mapFields (·.setIfInBounds 3 ((some L).elim Value.none fun f=>rawInt f)))).get? b=s.heap.get? b:=fun b hb=>FE _ _ (Ne.symm hb)
 have noRec:∀b o,s.heap.get? b=some o→(∀vs,o.data≠ .fields vs)→b≠T:=fun b o hb hnf q=>by
  rw[q,hT]at hb;injection hb with hb;subst hb;exact hnf ts hdT
 unfold setFlight
 refine zz0 (wpAny_field he hd h1 ?_)
 rw[if_pos (show(Value.ref T != Value.none)=true from by simp)]
 refine wpAny_setField hT hdT hz (hQ _ ⟨fun b o q=>(other b fun z=>by rw[z,hnT]at q;cases q).trans (hkb b o q),hen,
  hl.of_keeps fun b o hb hnf=>⟨o,(other b (noRec b o hb hnf)).trans hb,rfl⟩,?_⟩ fun b o hb hnf=>⟨o.slots,(other b (noRec b o hb hnf)).trans hb⟩)
 exact⟨⟨oe,vs,T,_,_,(other e (Ne.symm hTe)).trans he,hcls,hd,h1,hnT,hTe,Heap.get?_update_self _ hT (Obj.isFreed_of_fields (Obj.data_mapFields hdT _)),Obj.data_mapFields hdT _,by simp[hz]⟩,CtxN.upd c0 (yN (by decide))⟩
theorem Ca{base:Heap}{env:Env}{l:List Env}{L e:Addr}{cls:Value}{what:String}(hf:env.frame=some L)(hh:HeldC Hf base l e cls a0 L s.heap)
  (hE:∀h',HeldC Hf base l e cls a0 L h'→s.heap.UpToSlots h'→E (.ref e) {s with heap:=h'}):wpAny M A (PySem.passOn what (.ref e) env) Q E s:=by
 unfold PySem.passOn
 have hh':=hh
 obtain⟨hkb,hen,hl,⟨oe,vs,T,oT,ts,he,hcls,hd,h1,hnT,hTe,hT,hdT,h3⟩,c0⟩:=hh
 refine zz0 (wpAny_field he hd h1 ?_)
 rw[if_neg (show ¬((Value.ref T == Value.none)=true)from by simp),hf]
 exact zz0 (wA hh' fun h' a b=>wpAny_throw (hE h' a b))
end
theorem mK(e:h.get? C=some o)(nf:o'.isFreed=false):(h.update C fun _=>o').get? C=some o':=Heap.get?_update_self (fun _=>o') e nf
theorem j_{B B':Heap}:∀{l:List Env},(∀b,B.get? b=none→B'.get? b=none)→(∀b,B.get? b=none→h'.get? b=h.get? b)→h.FunFrames B l→h'.FunFrames B' l
 |[],_,_,_=>trivial
 |_::_,n,k,⟨a,⟨L,o,hf,hn,ho,hd⟩,r⟩=>⟨a,⟨L,o,hf,n L hn,(k L hn).trans ho,hd⟩,j_ n k r⟩
theorem HeldC.swap{B:Heap}{l:List Env}{e:Addr}{cls:Value}{L:Addr}(x:HeldC Hf B l e cls a0 L h)(hs:Heap.SameBut C h h')(eB:B.get? C=some o)(nr:∀vs,o.data≠ .fields vs)(eh:h'.get? C=some o')(nf:o'.isFreed=false):HeldC Hf (B.update C fun _=>o') l e cls a0 L h':=by
 obtain⟨k,hn,ff,⟨oe,vs,T,oT,ts,he,hc,hd,h1,hnT,hTe,hT,hdT,h3⟩,ps,cp,⟨oc,vc,hec,hdc,h2⟩,r1,r2⟩:=x
 have nC:∀b,B.get? b=none→b≠C:=fun b q z=>by rw[z,eB]at q;cases q
 have oth:∀b,b≠C→(B.update C fun _=>o').get? b=B.get? b:=fun b q=>FE _ _ (Ne.symm q)
 have same:∀b,B.get? b=none→h'.get? b=h.get? b:=fun b q=>hs.2 b (nC b q)
 have stil:∀b,B.get? b=none→(B.update C fun _=>o').get? b=none:=fun b q=>(oth b (nC b q)).trans q
 refine⟨fun b u q=>?_,stil e hn,j_ stil same ff,⟨oe,vs,T,oT,ts,(same e hn).trans he,hc,hd,h1,stil T hnT,hTe,(same T hnT).trans hT,hdT,h3⟩,ps,cp,⟨oc,vc,(same e hn).trans hec,hdc,h2⟩,fun p hp=>⟨?_,(r1 p hp).2⟩,r2⟩
 rotate_left
 ·refine(oth p.1 fun z=>?_).trans (r1 p hp).1
  obtain⟨ws,hw,_⟩:=jk cp hp
  have q:=(r1 p hp).1
  rw[z,eB]at q
  injection q with q
  exact nr ws (q▸hw)
 by_cases z:b=C
 ·subst z
  rw[mK eB nf]at q
  rw[eh];exact q
 ·rw[oth b z]at q
  exact(hs.2 b z).trans (k b u q)
theorem UnB.swap{fs:List Addr}{H:Hp}{B h3:Heap}{oB:Obj}(u:UnB fs H H' h B h2)(nC:C∉fs)(hH:H C=none)(e:h.get? C=some o)(eB:B.get? C=some oB)(nf:o'.isFreed=false)(hs:∀b,b≠C→h3.get? b=h2.get? b):
  UnB fs H H' (h.update C fun _=>o') (B.update C fun _=>o') h3:=by
 have oth:∀(g:Heap) b,b≠C→(g.update C fun _=>o').get? b=g.get? b:=fun g b q=>FE _ _ (Ne.symm q)
 refine⟨fun b p q n hb=>?_,fun b p q n hb=>?_,fun b p q n=>?_,fun b p q hb=>?_,u.tups,u.frzs,u.tbls⟩
 ·by_cases z:b=C
  ·subst z;rw[mK e nf]at q;rw[mK eB nf];exact q
  ·rw[oth h b z]at q;rw[oth B b z];exact u.keep b p q n hb
 ·have z:b≠C:=fun z=>nC (z▸hb)
  rw[oth h b z]at q
  obtain⟨sl,w⟩:=u.slot b p q n hb
  exact⟨sl,(hs b z).trans w⟩
 ·by_cases z:b=C
  ·subst z;exact u.free b o e hH
  ·rw[oth h b z]at q;exact u.free b p q n
 ·by_cases z:b=C
  ·subst z;exact⟨o',mK eB nf⟩
  ·rw[oth h b z]at q;obtain⟨w,hw⟩:=u.there b p q hb;exact⟨w,(oth B b z).trans hw⟩
theorem HOk.swap{w:World}{H:Hp}{B:Heap}{o:Obj}(x:HOk P w H B)(hn:H C=none):HOk P w H (B.update C fun _=>o'):=fun a u e=>by
 refine(x a u e).stay (fun b q hb z=>?_) (fun _ z=>z) fun _ _ z=>z
 rw[FE _ _ fun z2=>?_]
 ·exact z
 ·rcases hb with rfl |hb
  ·rw[←z2,hn]at e;cases e
  ·rw[←z2,hn]at hb;cases hb
def JK(M:Model)(A:Around)(E:Value→Shared→Prop)(cenv:Env)(r:Result)(s':Shared):Prop:=match r with
 |.ok _=>False
 |.error x=>∃m,s'.heap.Ns cenv.locals m∧∀h' m',h'.Ns cenv.locals m'→Heap.SameBut cenv.locals s'.heap h'→wpAny M A (PySem.passOn "comprehension.variables-let-go" x cenv:Sem Value) (fun _ _=>False) E {s' with heap:=h'}
section
variable {M:Model} {A:Around} {E:Value→Shared→Prop} {s:Shared} {env:Env}
theorem wB{pos:Pos}{newAcc first:Sem Value}{g:Comprehension}{gs:List Comprehension}{cl:List (Str×Addr)}{use:Option (Value→Sem Unit)}
  (hcl:clausesOf e=g::gs) (hs:∀x,foldedSetIterable g.iter env x=pure x) (hclos:closureFor scope env=pure cl) (hk:scope.kind=.function) (hnm:∀x∈scope.names,x.2=.local→scope.names.lookup x.1=some .local)
  (h:wpAny M A first (fun x s₁=>wpAny M A (pyIter x) (fun it s₂=>wpAny M A newAcc (fun acc s₃=>wpAny M A (newFunctionEnv scope env.globals cl [] env.qual none .none (some env)) (fun cenv s₄=>
    codeAny M A (.compStart e 0 it acc {cenv with scope:=relabel scope env}) (JK M A E {cenv with scope:=relabel scope env}) s₄) E s₃) E s₂) E s₁) E s):
  wpAny M A (comprehension e scope env pos newAcc false first use) Q E s:=by
 unfold comprehension
 rw[hclos,hcl]
 refine zz0 (dw h fun x s₁ h₁=>zz0 (wpAny_standAt (zz0 (wpAny_of_eq (hs x) (zz0 (zz7 (dw h₁ fun it s₂ h₂=>wpAny_standIf (zz0 (dw h₂ fun acc s₃ h₃=>
  zz0 (zz1 (zz0 (dw h₃ fun cenv s₄ h₄=>?_))))))))))))
 dsimp only
 refine zz7 (zz0 (wpAny_attempt (zz7 (wpAny_run (codeAny_mono h₄ fun r s' hr=>?_)))))
 cases r with
 |ok f=>exact False.elim hr
 |error x=>
  obtain⟨m,hn,hr⟩:=hr
  refine zz0 (zz7 (wpAny_comp_letGo (cenv:={cenv with scope:=relabel scope env}) hk _ s' m (fun y hy hl=>?_) hn fun h' m' hn' hs'=>zz2 (hr h' m' hn' hs') (fun _ _ z=>z.elim) fun _ _ z=>z))
  exact lookup_relabel_local (hnm y (List.mem_filter.mp (List.mem_reverse.mp hy)).1 hl)
end
section
variable {prog:Program} {w:World} {A:Around} {R:Result→Shared→Prop} {s:Shared}
theorem Em{elt target:Expr}{pos:Pos}{it acc:Value}{env:Env}(I:Nat→Shared→Prop)
  (turn:∀n s,I n s→wpAny (model prog w) A (pyNext it) (fun r s₁=>match r with
   |none=>R (.ok .next) s₁
   |some v=>wpAny (model prog w) A (letOwnedTupleGo target it v) (fun _ s₁'=>wpAny (model prog w) A (assign target env v) (fun _ s₂=>
      wpAny (model prog w) A (eval elt env) (fun x s₄=>wpAny (model prog w) A (call (.builtin "list.append") [acc,x]) (fun _ s₅=>∃m,m < n∧I m s₅) (fun _ _=>False) s₄) (notedBy (model prog w) A env fun x s'=>R (.error x) s') s₂)
     (fun _ _=>False) s₁') (fun _ _=>False) s₁) (fun _ _=>False) s)
  (n:Nat) (h:I n s):codeAny (model prog w) A (.compLoop (.ListComp elt [⟨target,iter,[],0⟩] scope pos) 0 it acc env) R s:=by
 refine codeAny_loop rfl I (fun n s hI=>?_) n h
 show wpAny _ A ((compTurn (.ListComp elt [⟨target,iter,[],0⟩] scope pos) 0 it acc env).onRaise (fun x=>do noteFrame x env;theTreesLotGoes x)) _ _ s
 refine wpAny_noted ?_
 rw[compTurn_list]
 refine zz0 (wpAny_standAt (zz0 (zz2 (turn n s hI) (fun r s₁ h₁=>?_) fun _ _ z=>z.elim)))
 cases r with
 |none=>exact zz1 h₁
 |some v=>
  refine zz0 (zz2 h₁ (fun _ s₁' h₁'=>zz0 (zz2 h₁' (fun _ s₂ h₂=>zz0 (wpAny_tests_nil ?_)) fun _ _ z=>z.elim)) fun _ _ z=>z.elim)
  exact zz0 (zz0 (dw h₂ fun x s₄ h₄=>zz0 (zz2 h₄ (fun _ s₅ h₅=>zz1 (zz1 ⟨rfl,h₅⟩)) fun _ _ z=>z.elim)))
end
def g9(tg:fK)(el:ba)(re:fO):List PyData→List Sl→Option Str
 |[],_=>none
 |d::ds,E=>(tg d E).bind fun E1=>match re E1 with
  |some x=>some x.1
  |none=>(el E1).bind fun c=>(frz c.2 c.1).bind fun e=>g9 tg el re ds e.2
def wC(js:List (Option Nat))(it:kX)(tg:fK)(el:ba)(re:fO):fO:=fun E=>(it E).bind fun a=>if a.1.length≤1000000 then (g9 tg el re a.1 (jh js a.2)).map fun n=>(n,a.2)else none
def LH(X Xc:Cx)(n:Str)(H2:Hp)(e:Value)(s':Shared):Prop:=∃pp σ' C H' ea H s a0 Bb,e=.ref ea∧nsIn X.K mainGlobals n=some (some (.ref C))∧Same H2 H'∧Inv Xc pp σ' H s∧s'.os=s.os∧AllBare s'.gens∧FlyC H' Bb X.stack ea (.ref C) a0 s'.heap∧HOk X.prog X.w H' Bb∧UnB (iz X.stack) H H' s.heap Bb s'.heap
section
variable {X:Cx} {elt target iter:Expr} {scope sc:Scope} {cl:List (Str×Addr)} {N:List Str} {pos:Pos} {js:List (Option Nat)} {m m3:Bool} {it:kX} {tg:fK} {el:ba} {re:fO}
theorem En{use:Option (Value→Sem Unit)}{Qv:Value→Shared→Prop}(K:CompOk X scope sc cl N js)(hst:X.stack=X.env::X.outer)(hfr:X.env.frame=some X.env.locals)(hc:X.calm=true)(hi:IX X.nox target iter m it)
  (hgg:∀C s₀ H₀ fp,GX (X.comp sc cl N C s₀ H₀ fp) target tg) (hee:∀C s₀ H₀ fp,EX (X.comp sc cl N C s₀ H₀ fp) elt m3 el) (hre:∀C s₀ H₀ fp W,RE ((X.comp sc cl N C s₀ H₀ fp).wish W) false elt re)
  (hs:∀x,foldedSetIterable iter X.env x=pure x)  {s:Shared} {σ:L2.St} {H B:Hp}  {n:Str} (I:Inv X pins σ H s) (fr:Frm X.K B σ H E [] []) (er:wC js it tg el re E=some (n,E'))
  (k:∀C H',nsIn X.K mainGlobals n=some (some (.ref C))→Frm X.K B σ H' E' [] []→wq X C pins σ H'):
  wpAny (model X.prog X.w) X.A (comprehension (.ListComp elt [⟨target,iter,[],0⟩] scope pos) scope X.env (firstIterPos [⟨target,iter,[],0⟩] pos) (newList []) false (firstIter [⟨target,iter,[],0⟩] X.env) use) Qv X.xe s:=by
 obtain⟨⟨ds,E1⟩,e1,er⟩:=Za.mp er
 simp only at er
 split at er
 case isFalse=>cases er
 rename_i hlen
 obtain⟨n',e2,er⟩:=Zab.mp er
 cases er
 have h0:=hi pins s σ H (fun J H2=>∃B',Same B B'∧Frm X.K B' σ H2 E' [] []∧vV X.K B' J ds) (I.wish _) ⟨B,E,[],[],ds,E',fr,fun _=>Calm.nil rfl,e1,fun B' J H' a b c=>⟨B',a,b,c⟩⟩
 refine wB (use:=use) rfl hs K.clos K.kind K.names (zz2 h0 (fun v s1 h1=>zz2 h1 (fun itv s2 h2=>?_) fun _ _ z=>z.elim) fun _ _ z=>z.elim)
 obtain⟨it,fp,tn,J,H2,e,I2,T,st2,f2,B',hB,⟨F1,A1,fr1⟩,ok⟩:=h2
 subst e
 have I2:=I2.unwish
 refine wpAny_newObj_type (wpAny_newFunctionEnv K.nocell (by intro y hy;simp at hy) (fun h₁ hns₁ hsb₁=>?_) K.kind)
 dsimp only at hns₁ hsb₁ ⊢
 have I3:Inv X pins σ (upd H2 s2.heap.objs.size (.lst [])) {s2 with heap:=s2.heap.push {cls:=.type "list",dict:=none,data:=.seq ([]:List Value).toArray}}:=I2.lnew (t':=s2.toks) (its:=[]) .nil (zz9 _)
 have hD0:H2 s2.heap.objs.size=none:=I2.hok.fresh (fz _)
 generalize hP:s2.heap.push {cls:=.type "list",dict:=none,data:=.seq ([]:List Value).toArray}=h3 at hns₁ hsb₁ I3 ⊢
 generalize hD:s2.heap.objs.size=D at hD0 I3 ⊢
 have hsz3:h3.objs.size=D+1:=by rw[←hP,zzD,hD]
 have old3:∀b o,s2.heap.get? b=some o→h3.get? b=some o:=fun b o e=>by rw[←hP];exact gD _ e
 have old:∀b o,h3.get? b=some o→h₁.get? b=some o:=fun b o e=>hsb₁.extBut b o (gS (fP e)) (gD _ e)
 have fpD:∀b∈fp,b < D:=fun b hb=>by
  obtain⟨o,e,_⟩:=T.obj _ _ st2 b hb
  rw[←hD];exact fP e
 have frD:∀b∈fp,(upd H2 D (.lst [])) b=none:=fun b hb=>by rw[aC (gS (fpD b hb))];exact(f2 b hb).1
 have f3:∀b∈fp,oS X pins (upd H2 D (.lst [])) b:=fun b hb=>⟨frD b hb,(f2 b hb).2⟩
 have Hfresh:∀a,h3.objs.size≤a→(upd H2 D (.lst [])) a=none:=fun a ha=>I3.hok.fresh ha
 have cellC:∀x c,X.env.cells.lookup x=some c→c < h3.objs.size:=fun x c e=>by
  obtain⟨v,q⟩:=I3.cell x c e
  exact q.lt
 have YOk:(X.comp sc cl N h3.objs.size {s2 with heap:=h3} (upd H2 D (.lst [])) fp).Ok:=by
  refine⟨I3.ok.mod,?_,I3.ok.glob,I3.ok.blt,fz _,fun x y c e1 e2=>I3.ok.inj x y c (K.same x c e1) (K.same y c e2),fun x hx=>K.has x hx,fun x c hf _=>absurd hf (by intro z;cases z),I3.ok.hd,I3.ok.frames,.inl rfl,fun b hb=>⟨?_,fun x c e=>(f2 b hb).2.2.2.2.1 x c (K.same x c e)⟩,
   I3.bs,jP I3.ok.bsz I3.sz,fun b o e hb=>?_,fun b hb hm=>?_,I3.stack,I3.stkFree,I3.tab⟩
  ·rw[←K.rel];exact K.kind
  ·exact gS (by rw[hsz3];exact xJ (fpD b hb))
  ·rcases(f2 b hb).2.2.2.1 with z |z
   ·exact I3.ok.noex b o e z
   ·exact absurd (ma (fP (I3.ok.bs b o e).1) z) (Nat.lt_irrefl _)
  ·rcases Zag.mp (I3.stkSub b hm)with z |z
   ·exact(f2 b hb).2.1 z
   ·exact(f2 b hb).2.2.1 z
 have IY:Inv (X.comp sc cl N h3.objs.size {s2 with heap:=h3} (upd H2 D (.lst [])) fp) [] (slots js σ) (upd H2 D (.lst [])) {s2 with heap:=h₁,toks:=s2.toks+([]:List (Str×Value)).length}:=by
  refine⟨YOk,rfl,I3.bare,Un.kept old,⟨_,hns₁,fun i x v e1 e2 e3=>?_⟩,fun x c e=>?_,Hfresh _ (fz _),fun x c e=>I3.freeC x c (K.same x c e),fun p hp=>absurd (show p∈([]:List (Addr×Obj))from hp) (by simp),I3.hok.kept old,?_⟩
  ·unfold slots at e2
   rw[zP]at e2
   cases ej:js[i]? with
   |none=>rw[ej]at e2;cases e2
   |some jo=>
    rw[ej]at e2
    cases jo with
    |none=>cases e2
    |some j=>
     obtain⟨y,n1,n2,k1,k2⟩:=K.from_ i j ej
     have exy:y=x:=Option.some.inj (n1.symm.trans e1)
     subst exy
     have e2':(σ[j]?).join=some v:=Option.some.inj e2
     have e4:σ[j]? =some (some v):=by
      cases es:σ[j]? with
      |none=>rw[es]at e2';cases e2'
      |some w=>rw[es]at e2';exact congrArg some e2'
     obtain⟨m,_,hl⟩:=I3.loc
     obtain⟨u,ru,lk⟩:=hl j y v n2 e4 (by
      rcases k2 with z |z
      ·exact .inr (.inl z)
      ·exact .inr (.inr z))
     refine⟨u,ru,.inr ⟨k1,?_⟩⟩
     obtain⟨c,hcl⟩:=K.has y k1
     refine⟨c,hcl,?_⟩
     rcases lk with⟨z,_⟩ |⟨_,c',e5,ic⟩
     ·rcases k2 with q |q
      ·rw[q]at z;cases z
      ·rw[q]at z;cases z
     ·have:c'=c:=Option.some.inj (e5.symm.trans (K.same y c hcl))
      subst this
      obtain⟨o,ho,hd⟩:=ic
      exact⟨o,old _ _ ho,hd⟩
  ·obtain⟨v,o,ho,hd⟩:=I3.cell x c (K.same x c e)
   exact⟨v,o,old _ _ ho,hd⟩
  ·unfold slots;rw[eM];exact K.len
 generalize hC:h3.objs.size=C at hns₁ hsb₁ Hfresh cellC YOk IY ⊢
 have hCz:C=h3.objs.size:=hC.symm
 have B2:Same B' H2:=fr1.bf.trans fr1.fh
 have fr0:=(vW fr1 js).newl (ds:=[]) .nil hD0
 have nCs:C∉iz X.stack:=fun z=>by
  rcases Zag.mp (I3.stkSub C z)with q |q
  ·exact absurd I3.lt (by rw[q]at hCz;rw[hCz];exact Nat.lt_irrefl _)
  ·exact I3.nofs (Nat.le_of_eq hCz.symm) q
 -- how a refusal leaves the block
 have leave:∀e s',LH X (X.comp sc cl N C {s2 with heap:=h3} (upd H2 D (.lst [])) fp) n H2 e s'→notedBy (model X.prog X.w) X.A (X.comp sc cl N C {s2 with heap:=h3} (upd H2 D (.lst [])) fp).env (fun x s'=>JK (model X.prog X.w) X.A X.xe (X.comp sc cl N C {s2 with heap:=h3} (upd H2 D (.lst [])) fp).env (.error x) s') e s':=by
  rintro e s' ⟨pp,σ',Cc,H',ea,H5,s5,a0,Bb,rfl,ns,g2,I5,os,bare,fl,hok,u⟩
  unfold notedBy
  rw[GR (a:=(X.comp sc cl N C {s2 with heap:=h3} (upd H2 D (.lst [])) fp).env) (b:=X.env) rfl]
  refine kN (outer:=X.outer) (by rw[I3.ok.frames,hst]) hfr (hst▸fl) fun h6 x1 x2=>?_
  have u6:=u.on fl.2.2.1 x2
  have I5f:H5 C=none:=I5.free
  obtain⟨mC,oC,es,ep,hoC,hdC,hrC⟩:=(show ∃m,s5.heap.Ns C m from let ⟨m,a,_⟩:=I5.loc;⟨m,a⟩)
  have bC:=u.keep C oC hoC I5f nCs
  refine⟨mC,⟨oC,es,ep,x1.1 C oC bC,hdC,hrC⟩,fun h7 m7 hn7 hs7=>?_⟩
  obtain⟨o7,es7,ep7,ho7,hd7,hr7⟩:=hn7
  have nf:o7.isFreed=false:=(Heap.get?_some_iff.mp ho7).2
  have hh7:=HeldC.swap (hst▸x1) hs7 bC (fun vs z=>by rw[hdC]at z;cases z) ho7 nf
  refine Ca (base:=Bb.update C fun _=>o7) (l:=X.stack) hfr hh7 fun h8 y1 y2=>?_
  have IX:Inv X pins σ H5 s5:=I3.call' (ch:=fp) I5.os I5.base I5.hok I5.bare fun b hb=>⟨(f3 b hb).2.2.2.1,(f3 b hb).2.1,(f3 b hb).2.2.2.2.1,(f3 b hb).2.2.2.2.2⟩
  have IX':Inv X pins σ H5 {s5 with heap:=s5.heap.update C fun _=>o7,toks:=s5.toks}:=IX.turned (it:=C) (fun b o hb e=>by rw[FE _ _ (Ne.symm hb)];exact e) I5f (by rw[hCz];exact Ne.symm (gS I3.lt)) (.inr (by rw[hCz];exact I3.sz)) (fun x c e=>gS (hCz▸cellC x c e)) (fun p hp=>by rw[hCz];exact gS (fP (I3.pin p hp).1))
  refine k Cc H' ns ⟨_,_,(fr1.base hB).grow g2⟩ H5 _ ea _ a0 _ IX' os bare y1 (HOk.swap (o:=oC) hok (u.free C oC hoC I5f)) ?_
  exact(UnB.swap u6 nCs I5f hoC bC nf fun b hb=>hs7.2 b hb).on hh7.2.2.1 y2
 have loop:∀s₃:Shared,s₃={s2 with heap:=h₁,toks:=s2.toks+([]:List (Str×Value)).length}→
   codeAny (model X.prog X.w) X.A (.compLoop (.ListComp elt [⟨target,iter,[],0⟩] scope pos) 0 (.ref it) (.ref D) (X.comp sc cl N C {s2 with heap:=h3} (upd H2 D (.lst [])) fp).env)
    (JK (model X.prog X.w) X.A X.xe (X.comp sc cl N C {s2 with heap:=h3} (upd H2 D (.lst [])) fp).env) s₃:=by
  rintro s₃ rfl
  refine Em (fun nn s'=>∃i σ' H',Inv (X.comp sc cl N C {s2 with heap:=h3} (upd H2 D (.lst [])) fp) [] σ' H' s'∧tn i s'.heap∧(∀b∈fp,H' b=none)∧nn=ds.length - i∧i≤ds.length∧∃Ei acc,acc.length=i∧g9 tg el re (ds.drop i) Ei=some n∧Frm X.K H2 σ' H' Ei [.ref D] [.ow acc]) ?_ ds.length
   ⟨0,_,_,IY,T.keep _ _ _ st2 (fun b hb o e=>old b o (old3 b o e)),frD,rfl,zz9 _,_,[],rfl,by simpa using e2,⟨_,_,fr0⟩⟩
  rintro nn s4 ⟨i,σ4,H4,I4,st4,fr4,rfl,hil,Ei,acc,ha,ei,F',A',fri⟩
  have ff:∀{H':Hp},(∀b∈fp,H' b=none)→∀b∈fp,oS (X.comp sc cl N C {s2 with heap:=h3} (upd H2 D (.lst [])) fp) [] H' b:=fun hn b hb=>
   ⟨hn b hb,(YOk.exf b hb).1,YOk.exfs b hb,.inl hb,(YOk.exf b hb).2,fun p hp=>absurd (show p∈([]:List (Addr×Obj))from hp) (by simp)⟩
  have hg:=hgg C {s2 with heap:=h3} (upd H2 D (.lst [])) fp
  have he:=hee C {s2 with heap:=h3} (upd H2 D (.lst [])) fp
  obtain⟨go,stop⟩:=ok i B2 fri
  by_cases hlt:i < ds.length
  case neg=>
   have e0:i=ds.length:=by omega
   rw[e0,List.drop_length]at ei
   cases ei
  obtain⟨d,ed⟩:∃d,ds[i]? =some d:=⟨ds[i],vH hlt⟩
  obtain⟨g1,yl⟩:=go d ed
  have edr:ds.drop i=d::ds.drop (i+1):=by
   rw[FK hlt]
   congr 1
   exact Option.some.inj ((vH hlt).symm.trans ed)
  rw[edr]at ei
  obtain⟨E3,e3,ei⟩:=Za.mp ei
  refine dw (T.item (X.comp sc cl N C {s2 with heap:=h3} (upd H2 D (.lst [])) fp) rfl rfl rfl hc i [] s4 σ4 H4 _ I4 (ff fr4) st4 g1) fun r s5 ⟨u,hr,h5⟩=>?_
  subst hr
  refine dw h5 fun _ s6 ⟨x,H6,I6,r6,y6,st6,fr6⟩=>?_
  have I6':=I6.pinned (ff fr6) (T.obj _ _ st6)
  refine dw (hg _ s6 σ4 H6 x u (fun σ7 H7=>Frm X.K H2 σ7 H7 E3 [.ref D] [.ow acc]) I6' r6 ⟨H2,Ei,[.ref D],[.ow acc],d,E3,yl x H6 y6,(fun s hs=>by rw[Zaf.mp hs];rfl),e3,fun σ3 H3 f3=>f3⟩) fun _ s7 ⟨σ7,H7,I7,F7,A7,fr7⟩=>?_
  split at ei
  ·rename_i x7 ex7
   cases ei
   obtain⟨A8,fr8⟩:=fr7.pop
   refine zz2 (hre C {s2 with heap:=h3} (upd H2 D (.lst [])) fp (LH X (X.comp sc cl N C {s2 with heap:=h3} (upd H2 D (.lst [])) fp) x7.1 H2) _ s7 σ7 H7 H2 E3 x7.1 x7.2 (I7.wish _) ⟨F7,A8,fr8⟩ ex7 fun pp hp σ' Cc H' ns ⟨F9,A9,fr9⟩=>⟨?_,fun z=>nomatch z⟩) (fun _ _ z=>z.elim) fun e s' z=>leave e s' z
   exact fun H5 s5 ea s' a0 Bb I5 os bare fl hok u=>⟨pp,σ',Cc,H',ea,H5,s5,a0,Bb,rfl,ns,fr9.bf.trans fr9.fh,I5.unwish,os,bare,fl,hok,u⟩
  ·have back:∀{σ7:L2.St} {H7:Hp} {s7:Shared},Inv (X.comp sc cl N C {s2 with heap:=h3} (upd H2 D (.lst [])) fp) ([]++m_ fp s6.heap) σ7 H7 s7→
     Inv (X.comp sc cl N C {s2 with heap:=h3} (upd H2 D (.lst [])) fp) [] σ7 H7 s7∧tn (i+1) s7.heap∧∀b∈fp,H7 b=none:=fun {σ7 H7 s7} I7=>
    ⟨I7.unpinned,T.keep _ _ _ st6 fun b hb o e=>(I7.pin (b,o) (m9 _ (m9 _ (fQ hb e)))).1,fun b hb=>by
     obtain⟨o,e,d⟩:=T.obj _ _ st6 b hb
     exact(I7.pin (b,o) (m9 _ (m9 _ (fQ hb e)))).2.1⟩
   obtain⟨⟨s5',E5⟩,e5,ei⟩:=Za.mp ei
   obtain⟨⟨d6,E6⟩,e6,ei⟩:=Za.mp ei
   have clm:Calm [Sl.ow acc]:=Calm.cons (fun s hs=>absurd hs (by simp)) rfl
   refine zz2 (he _ s7 σ7 H7 (fun y H9=>Frm X.K H2 σ7 H9 E5 (y::[.ref D]) (s5'::[.ow acc])) I7 ⟨H2,E3,[.ref D],[.ow acc],s5',E5,⟨F7,A7,fr7⟩,fun _=>clm,e5,fun v H' f=>f⟩) (fun yv s9 ⟨y,H9,I9,r9,F9,A9,fr9⟩=>?_) fun _ _ z=>z.elim
   obtain⟨FA,AA,frA⟩:=fr9.frz0 e6
   obtain⟨v',C1,ev,rfl,w,ew,ry⟩:=frA.ext (k:=0) rfl
   cases ev;cases ew
   obtain⟨AB,frB⟩:=frA.pop
   obtain⟨bf,fh,tf,sl,nd,frn,len,pl⟩:=frB
   generalize hT:List.map some [V.ref D]++σ7=TT at sl
   generalize hS:[Sl.ow acc]++E6=SS at sl
   cases sl with
   |nil=>cases hS
   |cons q0 r0=>
    injection hT with h1 hT
    injection hS with h2 hS
    subst h1 h2 hT hS
    obtain⟨l',us,el',rfl,hl5,ru⟩:=q0
    cases el'
    have lu:=ru.len
    refine dw (ni _ s9 σ7 H9 (.ref D) [y] (.ref D) [yv] (fun v H'=>v=.non∧H'=upd H9 D (.lst (us++[y]))) I9 rfl (.cons r9 .nil) ⟨D,us,y,rfl,rfl,hl5,small (by omega),rfl,rfl⟩) fun _ sA ⟨_,HA,IA,_,_,eA⟩=>?_
    subst eA
    obtain⟨J1,J2,J3⟩:=back IA
    refine⟨ds.length - (i+1),by omega,i+1,σ7,_,J1,J2,J3,rfl,hlt,E6,acc++[d6],by simp[ha],ei,FA,_,bf,fun b o qb=>?_,?_,.cons (A:=[D]) ⟨D,us++[y],rfl,rfl,upd_same,ru.snoc ry⟩ (r0.mono fun o s C hs hC qq=>qq.stay (Same.refl _) (fun b hb=>aC fun z=>?_) fun z=>?_),nd,frn,rfl,pl⟩
    ·have lF:FA D=none:=frn D (by simp)
     rw[aC (fun z=>by rw[z,lF]at qb;cases qb)]
     exact fh _ _ qb
    ·rw[pG hl5];exact tf
    ·have:=hC b hb
     rw[z]at this
     exact(List.nodup_cons.mp nd).1 this
    ·have:=pl s hs
     cases s <;> simp[Sl.isAl,Sl.isBr]at this z
 rw[K.rel]
 exact codeAny_compStart_list (loop _ rfl) (T.self _ 0 _ _ _ (T.keep _ _ _ st2 (fun b hb o e=>old b o (old3 b o e))) (loop _ rfl))
theorem GS(K:CompOk X scope sc cl N js)(hst:X.stack=X.env::X.outer)(hfr:X.env.frame=some X.env.locals)(hc:X.calm=true)(hi:IX X.nox target iter m it)(hgg:∀C s₀ H₀ fp,GX (X.comp sc cl N C s₀ H₀ fp) target tg)(hee:∀C s₀ H₀ fp,EX (X.comp sc cl N C s₀ H₀ fp) elt m3 el)(hre:∀C s₀ H₀ fp W,RE ((X.comp sc cl N C s₀ H₀ fp).wish W) false elt re)
  (hs:∀x,foldedSetIterable iter X.env x=pure x:=by intro _;rfl):RE X true (.ListComp elt [⟨target,iter,[],0⟩] scope pos) (wC js it tg el re):=fun pins s σ H B E n E' I fr er k=>by
 rw[eval_ListComp]
 exact En (use:=none) K hst hfr hc hi hgg hee hre hs I fr er fun C H' ns f=>(k pins (fun _=>rfl) σ C H' ns f).2 rfl
theorem Az{ifs:List Expr}{al:Bool}(K:CompOk X scope sc cl N js)(h:RE X al iter re)(hs:∀x,foldedSetIterable iter X.env x=pure x:=by intro _;rfl):RE X al (.ListComp elt [⟨target,iter,ifs,0⟩] scope pos) re:=fun pins s σ H B E n E' I fr er k=>by
 rw[eval_ListComp]
 exact wB (use:=none) rfl hs K.clos K.kind K.names (zz2 (h pins s σ H B E n E' I fr er k) (fun _ _ z=>z.elim) fun _ _ z=>z)
end
end PL
namespace L2
open PySem PySem.Spec PyProof.Rows
def M0(x:Str):It:=⟨fun i _=>i < x.cps.size,fun i H v H'=>∃T c,H T=none∧x.cps[i]? =some c∧v=.ref T∧H'=upd H T (.tup [.int i,.str ⟨#[c]⟩]),fun i _=>i=x.cps.size⟩
theorem yU{w:World}{K:Frag}{qX:List Expr}{pos:Pos}{e it:Addr}{t:Tok}(hei:e≠it)(DD:∀A:Around,A.handled=none→Draws P w A it [it] x.cps.size (fun i v=>∃c u,x.cps[i]? =some c∧v=Value.str ⟨#[c]⟩ u) fun i h=>h.IsStrIter it T x t i):Turn P w K (.Tuple qX k pos) (M0 x) [e,it] e
  (fun i h=>(∃old,IsEnum h e it i old)∧h.IsStrIter it T x t i) where
 mem:=by simp
 obj:=fun i h st c hc=>by
  obtain⟨⟨old,h1⟩,⟨o4,h4,_,d4⟩⟩:=st
  simp only[Zag,List.not_mem_nil,or_false]at hc
  rcases hc with rfl |rfl
  ·exact⟨_,h1,fun v z=>by cases z⟩
  ·exact⟨_,h4,fun v z=>by rw[d4]at z;cases z⟩
 keep:=fun i h h' st kk=>by
  obtain⟨⟨old,h1⟩,o,ho,r⟩:=st
  exact⟨⟨old,kk e (by simp) _ h1⟩,o,kk it (by simp) o ho,r⟩
 item:=by
  intro X hP hw hK hc i pins s σ H E I hf st hg
  subst hP hw hK
  obtain⟨⟨old,h1⟩,h4⟩:=st
  refine wpAny_pyNext_enum_itemD (DD X.A.in1 (I.ok.hd hc)) h1 h4 hg hei (by simpa using hei) fun y h' tk hy a1 a3 a5 a6 hk=>?_
  obtain⟨c,u,hc',rfl⟩:=hy
  have I0:=DN (t':=tk+1) I (us:=[.int i tk,.str ⟨#[c]⟩ u]) (vs:=[.int i,.str ⟨#[c]⟩]) (.cons ⟨_,rfl⟩ (.cons ⟨_,rfl⟩ .nil)) (by show 2≤sizeLine;decide)
  have hT:∀c∈[e,it],c≠s.heap.objs.size:=fun c hc ZE=>by
   have:c < s.heap.objs.size:=by
    simp only[Zag,List.not_mem_nil,or_false]at hc
    rcases hc with rfl |rfl
    ·exact fP h1
    ·obtain⟨o,q,_⟩:=h4;exact fP q
   rw[ZE]at this;exact Nat.lt_irrefl _ this
  have hf2:∀b∈[e,it],oS X pins (upd H s.heap.objs.size (.tup [.int i,.str ⟨#[c]⟩])) b:=fun b hb=>by
   obtain⟨f0,f⟩:=hf b hb
   exact⟨by rw[aC (hT b hb)];exact f0,f⟩
  have I1:=I0.turnedL (h':=h') (t':=tk+1) (fp:=[e,it]) (fun b o hb q=>by
   simp only[Zag,List.not_mem_nil,or_false,not_or]at hb
   by_cases ec:b=s.heap.objs.size
   ·subst ec
    rw[mf _ rfl]at q
    cases q
    exact a5
   ·exact hk b o hb.1 hb.2 (yC ec q)) hf2
  refine⟨_,rfl,wpAny_letOwnedTupleGo_enum (s:={s with heap:=h',toks:=tk+1}) a1 fun h'' z'' s''=>?_⟩
  have I2:=I1.turnedL (h':=h'') (t':=tk+1) (fp:=[e,it]) (fun c o hc q=>(s''.2 c fun e'=>hc (by simp[e'])).trans q) hf2
  obtain⟨o3,q3,r3⟩:=a3
  exact⟨.ref s.heap.objs.size,_,I2,rfl,⟨_,c,I.hok.fresh (fz _),hc',rfl,rfl⟩,⟨⟨_,by simpa using z''⟩,o3,(s''.2 it (Ne.symm hei)).trans q3,r3⟩,fun c hc=>(hf2 c hc).1⟩
 done:=by
  intro X hP hw hK hc i pins s σ H E I hf st hg
  subst hP hw hK
  obtain⟨⟨old,h1⟩,h4⟩:=st
  cases(show i=x.cps.size from hg)
  refine wpAny_pyNext_enum_endD (DD X.A.in1 (I.ok.hd hc)) h1 h4 fun h' hk=>⟨rfl,I.turnedL (t':=s.toks) (fp:=[e,it]) (fun c o hc q=>?_) hf⟩
  simp only[Zag,List.not_mem_nil,or_false,not_or]at hc
  exact hk c o hc.2 q
 self:=fun _ _ _ _ _ st h=>wpAny_pyIter_enum st.1.choose_spec h
def JL(tl:TA):TI:=fun σ H R=>tl σ H fun vs H1=>∃x,vs=[.str x]∧R (M0 x) H1
section
variable {X:Cx} {qX:List Expr} {kt:Nat} {pt:Pos}
theorem Eo{l:Expr} {tl:TA} {pos:Pos} (hg:Gl X "enumerate") (hm:X.mg "enumerate"=none) (ha:PA X [l] tl) (hs:starEach [l] X.env=[(false,eval l X.env)]:=by rfl):PI X (.Tuple qX kt pt) (.Call (.Name "enumerate" p) [l] [] pos) (JL tl):=by
 intro pins s σ H R I h
 refine Call_ (jT I hg hm boot_enumerate (PyProof.Rows.callWith_type1 (dw (ha pos pins s σ H _ I h) fun us s1 ⟨vs,H1,I1,r1,q1⟩=>?_) hs rfl))
 obtain⟨x,e,q⟩:=q1
 subst e
 obtain⟨u,rfl,ru⟩:=r1.one
 obtain⟨t,rfl⟩:=ru
 refine call_enumerate_str fun h' z1 z2 z3 hk=>?_
 have I2:Inv X pins σ H1 {s1 with heap:=h'}:=I1.kept (t':=s1.toks) hk
 refine wpAny_pyIter_enum (s:={s1 with heap:=h'}) z1 ⟨_,[_,_],_,_,H1,rfl,I2,yU (T:=strIterType x) (t:=t) (Nat.ne_of_gt (zzC _)) fun A hA=>?_,⟨⟨_,z1⟩,z2⟩,fun c hc=>?_,q⟩
 ·unfold strIterType
  split
  ·exact Draws.strAscii hA _ _ _
  ·exact Draws.strWide hA _ _ _
 have le:s1.heap.objs.size≤c:=by
  simp only[Zag,List.not_mem_nil,or_false]at hc
  rcases hc with rfl |rfl
  ·exact Nat.le_succ _
  ·exact fz _
 exact I1.fpOk le (I1.hok.fresh le)
end
end L2
namespace PL
open PySem L2 Nh
def p_(f:ba):kX:=fun E=>(f E).bind fun a=>match a.1 with
 |.sh (.str x)=>some (mn 0 (fE x),a.2)
 |_=>none
theorem yV{K:Frag}{B:Hp}:vV K B (M0 x) (mn 0 (fE x)):=fun {B' F A σ H E xs Xs} i sB fr=>by
 refine⟨fun d ed=>?_,fun e=>by show i=x.cps.size;rw[e,rR];simp[fE]⟩
 obtain⟨y,ey,rfl⟩:=rQ ed
 unfold fE at ey
 rw[zP]at ey
 obtain⟨c,ec,rfl⟩:=Zab.mp ey
 have ec':x.cps[i]? =some c:=by rw[←Array.getElem?_toList];exact ec
 refine⟨(Array.getElem?_eq_some_iff.mp ec').1,fun z H2 ⟨T,c',hT,e1,e3,e4⟩=>?_⟩
 rw[ec']at e1;cases e1
 subst e3 e4
 rw[Nat.zero_add]
 exact⟨_,_,fr.newt (.cons (.int _) (.cons (.str _) .nil)) hT⟩
theorem wD{qX:List Expr} {kt:Nat} {pt pos:Pos}    (hg:Gl X "enumerate") (hm:X.mg "enumerate"=none) (he:EX X e m f) (hs:starEach [e] X.env=[(false,eval e X.env)]:=by rfl):IX X (.Tuple qX kt pt) (.Call (.Name "enumerate" p) [e] [] pos) m (p_ f):=tI (Eo hg hm (bU he d0 hs) hs) fun σ H R z=>by
 obtain⟨B,E,xs,Xs,ds,E',fr,cl,e,q⟩:=z
 obtain⟨⟨s,E1⟩,e1,e⟩:=Za.mp e
 refine⟨B,E,xs,Xs,s,E1,fr,cl,e1,fun v H1 ⟨F,A,fr1⟩=>?_⟩
 simp only at e
 split at e
 ·cases e
  obtain⟨v',A1,ev,rfl,w,ew,r⟩:=fr1.ext (k:=0) rfl
  cases ev;cases ew
  cases r
  obtain⟨A3,fr3⟩:=fr1.pop
  exact⟨_,rfl,q F _ _ fr1.bf ⟨F,A3,fr3.raise⟩ yV⟩
 ·cases e
end PL
namespace PL
open PySem PySem.Spec PyProof.Rows L2 Nh
abbrev gk(n:Str):PyData:=.dict [(.none,.none),(.none,.str n)]
def GT(K:Frag)(mg:Str→Option Value)(n:Str):Prop:=∃f:Addr,nsIn K mainGlobals n=some (some (.ref f))∧mg n=some (.ref f)
theorem JM{K:Frag}{H:Hp}{n:Str}(r:Rp K H v (gk n)):∃a,v=.ref a∧nsIn K mainGlobals n=some (some (.ref a)):=by
 generalize e:gk n=d at r
 cases r with
 |fnc h=>cases e;exact⟨_,rfl,h⟩
 |dct h1 h2=>
  cases h2 with
  |nil=>cases e
  | @cons k x us d kvs a b=>cases k <;> cases e
 |_=>cases e
def jR(n:Str):ba:=fun E=>some (.sh (gk n),E)
inductive TabV (X:Cx):List (Str×(List PyData→Option Sl))→Prop
 |nil:TabV X []
 |cons {k:Nat} {n:Str} {ps:List Str} {c:List PyData→Option Sl} {t:List (Str×(List PyData→Option Sl))}:Own X.prog X.w X.K X.mg X.base k n ps (gw X.K c)→Room k X.A→GT X.K X.mg n→TabV X t→TabV X ((n,c)::t)
inductive TabR (X:Cx):List (Str×(List PyData→Option Str))→Prop
 |nil:TabR X []
 |cons {k:Nat} {n:Str} {ps:List Str} {r:List PyData→Option Str} {t:List (Str×(List PyData→Option Str))}:OwnR X.prog X.w X.K X.mg X.base k n ps (wu X.K r)→Room k X.A→GT X.K X.mg n→TabR X t→TabR X ((n,r)::t)
def lI(i:Nat)(tab:List (Str×(List PyData→Option Sl)))(g:nq):ba:=fun E=>match E[i]? with
 |some (.sh (.dict [(.none,.none),(.none,.str n)]))=>match tab.lookup n with
  |some c=>am c g E
  |none=>none
 |_=>none
def jm(i:Nat)(tab:List (Str×(List PyData→Option Str)))(g:nq):fO:=fun E=>match E[i]? with
 |some (.sh (.dict [(.none,.none),(.none,.str n)]))=>match tab.lookup n with
  |some r=>ce r g E
  |none=>none
 |_=>none
section
variable {X:Cx} {x y n:Str} {i:Nat} {p pos cpos:Pos} {e:Expr} {es:List Expr} {m:Bool} {g:nq}
theorem TabV.at:∀{t:List (Str×(List PyData→Option Sl))},TabV X t→t.lookup n=some c→∃k ps,Own X.prog X.w X.K X.mg X.base k n ps (gw X.K c)∧Room k X.A∧GT X.K X.mg n
 |_,.nil,e=>by cases e
 |_,.cons (n:=n') (c:=c') D hr N T,e=>by
  rw[List.lookup_cons]at e
  split at e
  ·rename_i z
   rw[beq_iff_eq]at z
   subst z
   cases e
   exact⟨_,_,D,hr,N⟩
  ·exact T.at e
theorem TabR.at{c:List PyData→Option Str}:∀{t:List (Str×(List PyData→Option Str))},TabR X t→t.lookup n=some c→∃k ps,OwnR X.prog X.w X.K X.mg X.base k n ps (wu X.K c)∧Room k X.A∧GT X.K X.mg n
 |_,.nil,e=>by cases e
 |_,.cons (n:=n') (r:=c') D hr N T,e=>by
  rw[List.lookup_cons]at e
  split at e
  ·rename_i z
   rw[beq_iff_eq]at z
   subst z
   cases e
   exact⟨_,_,D,hr,N⟩
  ·exact T.at e
theorem lJ(hg:Gl X n) (N:GT X.K X.mg n) (hdb:(n == ("__debug__":Str))=false:=by decide):EX X (.Name n p) false (jR n):=by
 intro pins s σ H Q I z
 obtain⟨B,E,xs,Xs,res,E',⟨F,A,fr⟩,cl,e,q⟩:=z
 cases e
 obtain⟨f,ns,m⟩:=N
 exact fX I hg m ⟨.ref f,H,I,rfl,q _ _ ⟨F,_,fr.push ⟨rfl,_,rfl,.fnc ns⟩⟩⟩ hdb
theorem HW{s:Shared} {σ:L2.St} {H:Hp} {f:Addr} {W:Value→Shared→Prop}  (I:Inv X pins σ H s) (hN:X.N[i]? =some y) (hv:Bl X.env.scope y) (hd:(y == ("__debug__":Str))=false) (hcd:(y == ("__classdict__":Str))=false)
  (eo:σ[i]? =some (some (.ref f))) (h:Q (.ref f) s):wpAny (model X.prog X.w) X.A (eval (.Name y p) X.env) Q W s:=by
 obtain⟨m,hn,hl⟩:=I.loc
 obtain⟨u,r,l⟩:=hl i y (.ref f) hN eo hv
 cases(show u=Value.ref f from r)
 rcases l with⟨hk,hm⟩ |⟨hk,c,hc,hcell⟩
 ·exact wpAny_Name (wpAny_loadName_local I.ok.kind hk hn hm h) hd
 ·rcases hk with hk |hk
  ·exact wpAny_Name (wpAny_loadName_cell I.ok.kind hk hc hcell h) hd
  ·exact wpAny_Name (wpAny_loadName_free I.ok.kind hk hc hcell h hcd) hd
theorem FrF.fnAt{K:Frag}{B:Hp}{A:List Addr}{σ:L2.St}{H:Hp}{mg:Str→Option Value}{f:Addr}(fr:FrF K B F A σ H E xs Xs)(ei:E[i]? =some (.sh (gk n)))(N:GT K mg n)(hm:mg n=some (.ref f)):σ[i]? =some (some (.ref f)):=by
 obtain⟨o,A1,eo,hs⟩:=fr.var ei
 obtain⟨v,rfl,r,_⟩:=hs.val fr.fh rfl
 obtain⟨a,rfl,ns'⟩:=JM r
 obtain⟨f0,ns,mx⟩:=N
 rw[ns]at ns'
 rw[mx]at hm
 cases ns'
 cases hm
 exact eo
theorem Ep{tab:List (Str×(List PyData→Option Sl))} (i:Nat) (T:TabV X tab) (ha:AX X (e::es) m g) (hN:X.N[i]? =some y:=by rfl) (hv:Bl X.env.scope y:=by first |exact Or.inl rfl |exact Or.inr (Or.inl rfl) |exact Or.inr (Or.inr rfl)) (hd:(y == ("__debug__":Str))=false:=by decide) (hcd:(y == ("__classdict__":Str))=false:=by decide)
  (he:starEach (e::es) X.env=(false,eval e X.env)::starEach es X.env:=by rfl) (hpl:(backTo pos (starEach es X.env)).any (·.1)=false:=by rfl):
  EX X (.Call (.Name y p) (e::es) [] pos) m (lI i tab g):=by
 intro pins s σ H Q I z
 obtain⟨B,E,xs,Xs,res,E',⟨F,A,fr⟩,cl,e,q⟩:=z
 unfold lI at e
 split at e
 rotate_left
 ·cases e
 rename_i n ei
 split at e
 rotate_left
 ·cases e
 rename_i c ec
 obtain⟨k,ps,D,hr,N⟩:=T.at ec
 obtain⟨f,fd,Fk,b,mx,kp⟩:=D.ex
 refine zz6 (HW I hN hv hd hcd (fr.fnAt ei N mx) ?_)
 obtain⟨⟨rs,E1⟩,e1,e⟩:=Za.mp e
 obtain⟨ds,e2,e⟩:=Za.mp e
 obtain⟨r,e3,e⟩:=Zab.mp e
 cases e
 refine callWith_K (h₀:=X.base) I.ok.mod.kin kp (dw (ha pos pins s σ H (fun vs H1=>gw X.K c (vs++[]) H1 Q E0) I ⟨B,E,xs,Xs,rs,E1,⟨F,A,fr⟩,cl,e1,fun vs H1 hl ⟨F,A,fr1⟩=>?_⟩) fun us s1 ⟨vs,H1,I1,r,q⟩=>⟨I1.kIn,?_⟩) he hpl
 ·obtain⟨r1,A',fr2⟩:=fr1.looks hl e2
  exact⟨ds,res,e3,by rw[oR];exact r1,fun v H' g q'=>q v H' (fr2.told g q')⟩
 ·exact C_ Fk hr b .nil HK I1 r q
theorem yW{tab:List (Str×(List PyData→Option Str))} (T:TabR X tab) (ha:AX X.nox (e::es) m g) (hN:X.N[i]? =some y) (hv:Bl X.env.scope y) (hd:(y == ("__debug__":Str))=false) (hcd:(y == ("__classdict__":Str))=false) (he:starEach (e::es) X.env=(false,eval e X.env)::starEach es X.env) (hpl:(backTo pos (starEach es X.env)).any (·.1)=false)
   {s:Shared} {σ:L2.St} {H B:Hp}  {n:Str} (I:Inv X pins σ H s) (fr:Frm X.K B σ H E [] []) (ee:jm i tab g E=some (n,E')) (k:∀C H',nsIn X.K mainGlobals n=some (some (.ref C))→Frm X.K B σ H' E' [] []→B3 X C pins σ H'):
  wpAny (model X.prog X.w) X.A (eval (.Call (.Name y p) (e::es) [] pos) X.env) (fun _ _=>False) X.xe s:=by
 unfold jm at ee
 split at ee
 rotate_left
 ·cases ee
 rename_i fn ei
 split at ee
 rotate_left
 ·cases ee
 rename_i r ec
 obtain⟨kk,ps,D,hr,NN⟩:=T.at ec
 obtain⟨f,fd,F,b,mx,kp⟩:=D.ex
 obtain⟨⟨rs,E1⟩,e1,ee⟩:=Za.mp ee
 obtain⟨ds,e2,ee⟩:=Za.mp ee
 obtain⟨n',e3,ee⟩:=Zab.mp ee
 cases ee
 have eo:=(let ⟨_,_,f0⟩:=fr;f0.fnAt ei NN mx)
 refine zz6 (HW I hN hv hd hcd eo ?_)
 have q1:=ha pos pins s σ H (fun vs H1=>vs.length=rs.length∧Frm X.K B σ H1 E1 (vs.reverse++[]) (rs.reverse++[])) (I.wish _) ⟨B,E,[],[],rs,E1,fr,fun _=>Calm.nil rfl,e1,fun vs H1 hl f=>⟨hl,f⟩⟩
 refine callWith_K (h₀:=X.base) I.ok.mod.kin kp (zz2 q1 (fun us s1 ⟨vs,H1,I1,rv,hl,F1,A1,fr1⟩=>⟨I1.kIn,?_⟩) fun _ _ z=>z.elim) he hpl
 have I1:=I1.unwish
 obtain⟨r1,A',fr2⟩:=fr1.looks hl e2
 have hlen:(us++[]).length=ps.length:=by
  rw[oR,←rv.length]
  exact F.len vs H1 (fun _ _=>False) (fun _ _ _=>True) ⟨ds,n,e3,r1,fun _ _ _ _=>trivial⟩
 have bd:=b s1 us I1.kIn hlen
 rw[oR]at bd
 refine wpAny_call (codeAny_mono (F.run X.A X.stack s1 H1 ⟨us,[]⟩ us vs (fun _ _=>False) (fun c _ H'=>∃C,c=.ref C∧nsIn X.K mainGlobals n=some (some (.ref C))∧Same H1 H') hr I1.env0 bd rv ⟨ds,n,e3,r1,fun C H' z g=>⟨C,rfl,z,g⟩⟩) fun rr s' hq=>?_)
 cases rr with
 |error er=>
  obtain⟨H',ea,C,a0,B',rfl,⟨C',eC,ns,g⟩,os,bare,fl,hok,u⟩:=hq
  cases eC
  exact k C H' ns ⟨_,_,fr2.grow g⟩ H1 s1 ea s' a0 B' I1 os bare fl hok u
 |ok fl=>
  cases fl with
  |ret u=>obtain⟨_,_,_,_,_,_,_,z⟩:=hq;exact z
  |next=>exact False.elim hq
  |brk=>exact False.elim hq
  |cont=>exact False.elim hq
theorem GU{tab:List (Str×(List PyData→Option Str))} (i:Nat) (T:TabR X tab) (ha:AX X.nox (e::es) m g) (hN:X.N[i]? =some y:=by rfl) (hv:Bl X.env.scope y:=by first |exact Or.inl rfl |exact Or.inr (Or.inl rfl) |exact Or.inr (Or.inr rfl)) (hs:swapsWith (.Call (.Name y p) (e::es) [] cpos) (some (.Name z pos')) pos.line X.env=pure false:=by rfl) (hd:(y == ("__debug__":Str))=false:=by decide) (hcd:(y == ("__classdict__":Str))=false:=by decide) (he:starEach (e::es) X.env=(false,eval e X.env)::starEach es X.env:=by rfl) (hpl:(backTo cpos (starEach es X.env)).any (·.1)=false:=by rfl) {al:Bool}:
  RX X mk al (.Assign [.Name z pos'] (.Call (.Name y p) (e::es) [] cpos) pos) (jm i tab g):=fun pins s σ H B E n E' I fr ee k=>
 wpAny_Assign_Name (dw (yW T ha hN hv hd hcd he hpl I fr ee fun C H' z f=>(k pins (fun _=>rfl) σ C H' z f).2.1) fun _ _ z=>z.elim) hs
theorem JN{id:String} {r:fO} {al:Bool} (hg:Gl X x) (hm:X.mg x=none) (hv:bootBuiltins x=some (.builtin id)) (h:RE X al e r) (hn:x≠"__name__":=by decide) (hdb:(x == ("__debug__":Str))=false:=by decide) (he:starEach (e::es) X.env=(false,eval e X.env)::starEach es X.env:=by rfl) (hpl:(backTo pos (starEach es X.env)).any (·.1)=false:=by rfl):
  RE X al (.Call (.Name x p) (e::es) [] pos) r:=fun pins s σ H B E n E' I fr ee k=>by
 refine zz6 (jT I hg hm hv ?_ hn hdb)
 refine PyProof.Rows.callWith_builtin1 ?_ he hpl
 rw[he]
 exact Calls.spliced_cons (zz2 (h pins s σ H B E n E' I fr ee k) (fun _ _ z=>z.elim) fun _ _ z=>z)
end
end PL
namespace L2
open PySem PySem.Spec PyProof.Rows
def GV:V→List V→Hp→VK→Prop:=fun x vs H Q=>∃l xs z y,x=.ref l∧vs=[.int z,y]∧H l=some (.lst xs)∧xs.length < 1000001∧0≤z∧z.toNat≤xs.length∧Q .non (upd H l (.lst (xs.take z.toNat++y::xs.drop z.toNat)))
theorem GW(a:List Value)(k:Nat)(y:Value):(a.toArray.extract 0 k).push y++a.toArray.extract k=(a.take k++y::a.drop k).toArray:=by
 apply Array.ext'
 simp only[List.extract_toArray,List.push_toArray,List.append_toArray,List.extract_eq_take_drop,List.drop_zero,k7,Nat.sub_zero]
 rw[List.take_of_length_le (l:=List.drop k a) (by rw[List.length_drop];omega),oQ,List.singleton_append]
theorem Cb:Mi X "list.insert" GV:=by
 intro pins s σ H x vs v us Q I rx rv h
 obtain⟨l,xs,z,y,rfl,rfl,hH,hz,h0,hk,q⟩:=h
 cases rx
 obtain⟨u,w,rfl,ru,rw'⟩:=rv.two
 obtain⟨t,rfl⟩:=ru
 obtain⟨zz,its,n,r,hl,e⟩:=I.lstM hH
 have sl:(1000002:Nat)≤sizeLine:=by rw[sizeLine_eq];decide
 have fit:Builtin.List.listFitsIndex z=true:=fitsIndex_both (by omega) (by omega)
 refine call_meets F.slot_list_insert ⟨_,e,rfl⟩ F.entry_list_insert (F.args_list_insert_3 _ _ _) (AutoSeq1.list_insert_list_int_val_1 l its.toArray n z t w (by simp[fit]) (by rw[k7];omega)) ⟨e,?_⟩
 refine⟨.non,_,I.lset (its':=its.take z.toNat++w::its.drop z.toNat) hH e ?_ ((r.take _).append (.cons rw' (r.drop _))) ?_,rfl,q⟩
 ·have e1:(if z < 0 then (z+(its.toArray.size:Int)).toNat else min z.toNat its.toArray.size)=z.toNat:=by
   rw[if_neg (by omega),k7]
   omega
  show(its.toArray.extract 0 (if z < 0 then (z+(its.toArray.size:Int)).toNat else min z.toNat its.toArray.size)).push w++its.toArray.extract (if z < 0 then (z+(its.toArray.size:Int)).toNat else min z.toNat its.toArray.size)=_
  rw[e1]
  exact GW its _ w
 ·rw[pA,List.length_cons,List.length_take,List.length_drop]
  omega
end L2
namespace PL
open PySem L2 Nh
def jn(i:Nat)(f g:ba):cI:=fun E=>match E[i]? with
 |some (.ow _)=>(f E).bind fun a=>match a.1 with
  |.sh (.int z)=>(g a.2).bind fun b=>match b.2[i]? with
   |some (.ow ds)=>if ds.length < 1000000∧0≤z∧z.toNat≤ds.length then
     match b.1 with
     |.sh d=>some (b.2.set i (.ow (ds.take z.toNat++d::ds.drop z.toNat)),.nx)
     |_=>none
    else none
   |_=>none
  |_=>none
 |_=>none
section
variable {X:Cx} {e e0:Expr} {m1 m2:Bool} {f g:ba} {x:Str} {p apos cpos pos:Pos}
theorem si(i:Nat) (h0:EX X e0 m1 f) (he:EX X e m2 g) (hN:X.N[i]? =some x:=by rfl) (hv:Bl X.env.scope x:=by first |exact Or.inl rfl |exact Or.inr (Or.inl rfl) |exact Or.inr (Or.inr rfl)) (hd:(x == ("__debug__":Str))=false:=by decide) (hcd:(x == ("__classdict__":Str))=false:=by decide)
  (hs1:starEach [e] X.env=[(false,eval e X.env)]:=by rfl) (hs:starEach [e0,e] X.env=(false,eval e0 X.env)::starEach [e] X.env:=by rfl) (hbase:attributeBase (.Name x p) "insert" X.env (eval (.Name x p) X.env)=eval (.Name x p) X.env:=by rfl)
  (hfew:((backTo cpos (starEach [e0,e] X.env)).all (fun x=> !x.1)&&(backToKw cpos (keywordEach [] X.env)).all (fun x=>x.1.isSome)
   &&decide (([e0,e]:List Expr).length+([]:List Keyword).length+(if ([]:List Keyword).isEmpty then 0 else 1) < 30))=true:=by rfl) (hline:(apos.endLine == cpos.line)=true:=by rfl) (hbk:((backTo cpos (starEach [e] X.env)).any fun x=>x.1)=false:=by rfl)
  (hsw:swapsWith (.Call (.Attribute (.Name x p) "insert" apos) [e0,e] [] cpos) none pos.line X.env=pure false:=by rfl):
  SX X (.Expr (.Call (.Attribute (.Name x p) "insert" apos) [e0,e] [] cpos) pos) (jn i f g):=by
 refine jX (zS (vM PySem.F.plainAttrs_list PySem.F.slot_list_insert PySem.F.type_list_insert Cb (lr hN hv hd hcd) (bU h0 (bU he d0 hs1) hs) hbase hfew hline hs hbk) hsw) fun D σ H z=>?_
 obtain⟨B,E,xs,Xs,E',fl,⟨F,A,fr⟩,cl,e,q⟩:=z
 subst cl
 have hx:xs=[]:=by simpa using fr.len
 subst hx
 unfold jn at e
 split at e
 ·rename_i ds0 ei
  obtain⟨⟨s,E1⟩,e1,e⟩:=Za.mp e
  simp only at e
  split at e
  ·rename_i z
   obtain⟨⟨s2,E2⟩,e2,e⟩:=Za.mp e
   simp only at e
   split at e
   ·rename_i ds ei2
    split at e
    ·rename_i hc
     obtain⟨hl,z0,zl⟩:=hc
     obtain⟨o,A1,eo,l,vs,rfl,rfl,hl0,_⟩:=fr.var ei
     refine⟨_,eo,.inl ⟨rfl,_,SqL.of hl0⟩,B,E,[],[],_,E1,⟨F,A,fr⟩,fun _=>Calm.nil rfl,e1,fun v1 H1 fr1=>?_⟩
     refine⟨B,E1,[v1],[_],s2,E2,fr1,fun _=>Calm.cons (Calm.nil rfl) rfl,e2,fun v H2 ⟨F2,A2,fr2⟩=>?_⟩
     obtain⟨v',A5,ev,rfl,w,ew,rz⟩:=fr2.ext (k:=1) rfl
     cases ev;cases ew
     cases rz
     obtain⟨A6,fr4⟩:=fr2.pop
     obtain⟨A7,fr5⟩:=fr4.pop
     split at e
     ·rename_i d s0
      cases e
      obtain⟨v',A4,ev,rfl,w,ew,rv⟩:=fr2.ext (k:=0) rfl
      cases ev;cases ew
      obtain⟨l',vs',eo',hl',r',put⟩:=fr5.mut ei2 (Calm.nil rfl)
      rw[eo]at eo'
      cases eo'
      have ll:=r'.len
      have fr6:=put (vs'.take z.toNat++v::vs'.drop z.toNat) (ds.take z.toNat++d::ds.drop z.toNat) ((r'.take _).append (.cons rv (r'.drop _)))
      exact⟨l,vs',z,v,rfl,rfl,hl',by omega,z0,by omega,q _ _ ⟨_,_,fr6⟩⟩
     ·cases e
    ·cases e
   ·cases e
  ·cases e
 ·cases e
end
end PL
namespace NhSG
set_option autoImplicit false
open PySem PyProof PyProof.Rows PySem.W
abbrev Ky:=Int×List Nat
def gJ(a b:Ky):Bool:=decide (a.1 < b.1)||(decide (a.1=b.1)&&decide (a.2 < b.2))
theorem ltKy_iff{a b:Ky}:gJ a b=true↔a.1 < b.1∨(a.1=b.1∧a.2 < b.2):=by simp[gJ]
theorem uA{a b:Ky}:gJ a b=false↔¬(a.1 < b.1∨(a.1=b.1∧a.2 < b.2)):=by rw[←ltKy_iff];simp
def qY(hp:Heap):Value→Option Ky
 |.ref a=>(hp.get? a).bind fun o=>match o.data with
  |.seq xs _=>match xs.toList with
   |[.int n _,.str z _]=>some (n,z.cps.toList)
   |_=>none
  |_=>none
 |_=>none
theorem GY{hp:Heap}{xs:Array Value}{n:Int}{t u:Tok}(ho:hp.get? a=some o)(hd:o.data=.seq xs k)(hx:xs.toList=[.int n t,.str z u]):qY hp (.ref a)=some (n,z.cps.toList):=by
 simp[qY,ho,hd,hx]
theorem AC{hp:Heap}{v:Value}{y:Ky}(h:qY hp v=some y):∃a o xs k t z u,v=.ref a∧hp.get? a=some o∧o.data=.seq xs k∧xs.toList=[.int y.1 t,.str z u]∧y.2=z.cps.toList:=by
 unfold qY at h
 split at h
 ·rename_i a
  obtain⟨o,ho,h⟩:=Za.mp h
  split at h
  ·rename_i xs k hd
   split at h
   ·rename_i n t z u hx
    cases h
    exact⟨a,o,xs,k,t,z,u,rfl,ho,hd,hx,rfl⟩
   ·cases h
  ·cases h
 ·cases h
@[reducible] def f_ (hp:Heap):PyProof.Rows.KeyKind where
 α:=Ky
 blt:=gJ
 irrefl a:=by
  rw[uA]
  rintro(h |h)
  ·omega
  ·exact List.lt_irrefl _ h.2
 trans a b c h1 h2:=by
  rw[ltKy_iff]at *
  rcases h1 with h1 |h1
  ·rcases h2 with h2 |h2
   ·exact .inl (by omega)
   ·exact .inl (by omega)
  ·rcases h2 with h2 |h2
   ·exact .inl (by omega)
   ·exact .inr ⟨by omega,List.lt_trans h1.2 h2.2⟩
 negTrans a b c h:=by
  rw[ltKy_iff]at *
  rw[ltKy_iff]
  by_cases hab:a.1 < b.1
  ·exact .inl (.inl hab)
  ·by_cases hbc:b.1 < c.1
   ·exact .inr (.inl hbc)
   ·have e:a.1=c.1∧a.2 < c.2:=by
     rcases h with h |h
     ·omega
     ·exact h
    by_cases hab2:a.2 < b.2
    ·exact .inl (.inr ⟨by omega,hab2⟩)
    ·exact .inr (.inr ⟨by omega,List.lt_of_le_of_lt (List.not_lt.mp hab2) e.2⟩)
 total a b h1 h2:=by
  rw[uA]at *
  have e:a.1=b.1:=by
   have n1:¬a.1 < b.1:=fun z=>h1 (.inl z)
   have n2:¬b.1 < a.1:=fun z=>h2 (.inl z)
   omega
  have e2:a.2=b.2:=List.le_antisymm (List.not_lt.mp fun z=>h2 (.inr ⟨e.symm,z⟩)) (List.not_lt.mp fun z=>h1 (.inr ⟨e,z⟩))
  exact Prod.ext e e2
 keyOf:=qY hp
 dflt:=(0,[])
def NK(prog:Program)(w:World)(A:Around)(κ:PyProof.Rows.KeyKind)(kd:SortKind)(s:Shared):Prop:=
 ∀(E:Value→Shared→Prop) (x y:Value) (a b:κ.α) {Q:Bool→Shared→Prop},κ.keyOf x=some a→κ.keyOf y=some b→Q (κ.blt a b) s→wpAny (model prog w) A (keyLt' kd x y) Q E s
theorem GZ{prog:Program}{w:World}{A:Around}{s:Shared}:NK prog w A (f_ s.heap) (tuples' true) s:=fun E x y a b Q ha hb hq=>by
 obtain⟨ax,ox,xs,kx,tx,zx,ux,rfl,hox,hdx,hxx,ea⟩:=AC ha
 obtain⟨ay,oy,ys,ky,ty,zy,uy,rfl,hoy,hdy,hyy,eb⟩:=AC hb
 refine kat_lt hox hdx hoy hdy ?_
 have fin:decide (xs.size < ys.size)=false:=by
  have l1:xs.size=2:=by rw[←xI,hxx];rfl
  have l2:ys.size=2:=by rw[←xI,hyy];rfl
  rw[l1,l2]
  rfl
 rw[hxx,hyy,fin]
 show KatLex prog w A true false Q [(.int a.1 tx,.int b.1 ty),(.str zx ux,.str zy uy)] 0 s
 refine kat_cons (wpAny_eqBool_int (kat_go (fun e1=>kat_yes (kat_cons (wpAny_eqBool_str (kat_go (fun e2=>kat_yes (kat_nil ?_)) (fun e2=>kat_no ?_))))) (fun e1=>kat_no ?_)))
 ·have e1:a.1=b.1:=by simpa using e1
  have e2:zx=zy:=by simpa using e2
  have:gJ a b=false:=by
   rw[uA,ea,eb,e2]
   rintro(z |z)
   ·omega
   ·exact List.lt_irrefl _ z.2
  rw[←this]
  exact hq
 ·have e1:a.1=b.1:=by simpa using e1
  show wpAny (model prog w) A (oneLt' false (.str zx ux) (.str zy uy)) Q _ s
  refine kat_one _ _ (PySem.P.lt_str ?_)
  have:gJ a b=decide (zx.cps.toList < zy.cps.toList):=by
   unfold gJ
   rw[←ea,←eb]
   simp[e1]
  have hq':Q (gJ a b) s:=hq
  rw[this]at hq'
  exact hq'
 ·have e1:¬a.1=b.1:=by simpa using e1
  show wpAny (model prog w) A (oneLt' true (.int a.1 tx) (.int b.1 ty)) Q _ s
  refine oneLt_int ?_
  have:gJ a b=decide (a.1 < b.1):=by
   unfold gJ
   simp[e1]
  have hq':Q (gJ a b) s:=hq
  rw[this]at hq'
  exact hq'
end NhSG
namespace NhLS
set_option autoImplicit false
open PySem PyProof.Rows
def G0:Bool→Keyed→Array Keyed→Nat→Nat→Nat→StateT SortSt Sem (Option Nat):=sortPriv% PySem.Builtin.gallop
def Er:Array Keyed→Array Keyed→StateT SortSt Sem (Array Keyed):=sortPriv% PySem.Builtin.mergeLo
def Es:Array Keyed→Array Keyed→StateT SortSt Sem (Array Keyed):=sortPriv% PySem.Builtin.mergeHi
def G1:Keyed:=(Value.none,Value.none)
def at'(a:Array Keyed)(i:Nat):Keyed:=a.getD i G1
theorem LI{a:Array Keyed}{i:Nat}(h:i < a.size):a[i]? =some (at' a i):=by simp[at',Array.getD,h]
structure Cmp (prog:Program) (w:World) (A:Around) (s:Shared) (κ:SortKind) (O:KeyOrd) (key:Keyed→O.α) (dom:Keyed→Prop):Prop where
 ask:∀(E:Value→Shared→Prop) (x y:Keyed) (Q:Bool→Shared→Prop),dom x→dom y→Q (O.blt (key x) (key y)) s→wpAny (model prog w) A (keyLt' κ x.1 y.1) Q E s
section
variable {prog:Program} {w:World} {A:Around} {E:Value→Shared→Prop} {s:Shared} {κ:SortKind} {O:KeyOrd} {key:Keyed→O.α} {dom:Keyed→Prop} {st:SortSt}
theorem Et(C:Cmp prog w A s κ O key dom){x y:Keyed}{Q:Option Bool→SortSt→Prop}(hk:kindOf st=κ)(dx:dom x)(dy:dom y)(h:Q (some (O.blt (key x) (key y))) st):wpS (model prog w) A E s (lt' x y) Q st:=by
 rw[lt'_eq]
 refine wpS_bind (wpS_get ?_)
 rw[hk]
 refine wpS_bind (wpS_lift (wpAny_attempt (C.ask _ _ _ _ dx dy ⟨rfl,?_⟩)))
 exact wpS_pure h
theorem g_{arr:Array Keyed}{i:Nat}{Q:Keyed→SortSt→Prop}(hi:i < arr.size)(h:Q (at' arr i) st):wpS (model prog w) A E s (elem' arr i) Q st:=by
 rw[elem'_eq,LI hi]
 exact wpS_pure h
def iA(O:KeyOrd)(key:Keyed→O.α)(left:Bool)(k:Keyed)(arr:Array Keyed)(base i:Nat):Bool:=if left then O.blt (key (at' arr (base+i))) (key k)else !O.blt (key k) (key (at' arr (base+i)))
theorem i5(C:Cmp prog w A s κ O key dom){left:Bool}{k:Keyed}{arr:Array Keyed}{base hint:Nat}{Q:Option Nat→SortSt→Prop}(hk:kindOf st=κ)(hh:hint < n)(hb:base+n≤arr.size)(dk:dom k)(da:∀i,i < arr.size→dom (at' arr i))
  (mono:∀i j,i < j→j < n→iA O key left k arr base j=true→iA O key left k arr base i=true)
  (h:∀m,m≤n→(∀i,i < m→iA O key left k arr base i=true)→(∀i,m≤i→i < n→iA O key left k arr base i=false)→Q (some m) st):wpS (model prog w) A E s (G0 left k arr base n hint) Q st:=by
 have bey:∀{i:Nat} {Q':Option Bool→SortSt→Prop},i < n→Q' (some (iA O key left k arr base i)) st→wpS (model prog w) A E s (elem' arr (base+i) >>= fun x=>if left=true then lt' x k else (lt' k x >>= fun r=>pure (r.map (!·)))) Q' st:=by
  intro i Q' hi hq
  refine wpS_bind (g_ (by lia) ?_)
  have dx:=da (base+i) (by lia)
  cases left with
  |true=>exact Et C hk dx dk hq
  |false=>exact wpS_bind (Et C hk dk dx (wpS_pure hq))
 refine wpS_bind (bey hh ?_)
 have up:∀i j,i≤j→j < n→iA O key left k arr base j=true→iA O key left k arr base i=true:=fun i j hij hj e=>by
  by_cases z:i=j
  ·rw[z];exact e
  ·exact mono i j (by exact zzB ‹_› ‹_›) hj e
 have dn:∀i j,i≤j→j < n→iA O key left k arr base i=false→iA O key left k arr base j=false:=fun i j hij hj e=>by
  cases z:iA O key left k arr base j with
  |false=>rfl
  |true=>rw[up i j hij hj z]at e;cases e
 have fin:∀{body:Nat→Option (Option Nat)×Nat×Nat→StateT SortSt Sem (ForInStep (Option (Option Nat)×Nat×Nat))} {cont:Option (Option Nat)×Nat×Nat→StateT SortSt Sem (Option Nat)},
   (∀lo,Q (some lo) st→wpS (model prog w) A E s (cont (none,lo,lo)) Q st)→
   (∀x lo hi (R:ForInStep (Option (Option Nat)×Nat×Nat)→SortSt→Prop),lo≥hi→R (.done (none,lo,hi)) st→wpS (model prog w) A E s (body x (none,lo,hi)) R st)→
   (∀x lo hi (R:ForInStep (Option (Option Nat)×Nat×Nat)→SortSt→Prop),lo < hi→hi≤n→R (.yield (if iA O key left k arr base (lo+(hi - lo) / 2)=true then (none,lo+(hi - lo) / 2+1,hi)else (none,lo,lo+(hi - lo) / 2))) st→wpS (model prog w) A E s (body x (none,lo,hi)) R st)→
   ∀lo hi,lo≤hi→hi≤n→(∀i,i < lo→iA O key left k arr base i=true)→(∀i,hi≤i→i < n→iA O key left k arr base i=false)→
   wpS (model prog w) A E s (forIn [0:n] (none,lo,hi) body >>= cont) Q st:=by
  intro body cont b3 b1 b2 lo hi f1 f2 f3 f4
  refine wpS_bind (wpS_mono (wpS_forRange (I:=fun x c st'=>st'=st∧∃lo hi,c=(none,lo,hi)∧lo≤hi∧hi≤n∧hi+x≤n+lo∧(∀i,i < lo→iA O key left k arr base i=true)∧(∀i,hi≤i→i < n→iA O key left k arr base i=false))
   (Q:=fun c st'=>st'=st∧∃lo,c=(none,lo,lo)∧lo≤n∧(∀i,i < lo→iA O key left k arr base i=true)∧(∀i,lo≤i→i < n→iA O key left k arr base i=false)) ?s1 ?s2 ⟨rfl,lo,hi,rfl,f1,f2,by exact Nat.le_add_right_of_le ‹_›,f3,f4⟩) ?s3)
  case s2=>
   rintro c st' ⟨rfl,l,o,rfl,h1,h2,h3,h4,h5⟩
   have:l=o:=by lia
   subst this
   exact⟨rfl,l,rfl,h2,h4,h5⟩
  case s3=>
   rintro c st' ⟨rfl,l,rfl,h2,h4,h5⟩
   exact b3 l (h l h2 h4 h5)
  case s1=>
   rintro x c st' - hx ⟨rfl,l,o,rfl,h1,h2,h3,h4,h5⟩
   by_cases z:l≥o
   ·have:l=o:=by exact Nat.le_antisymm ‹_› ‹_›
    subst this
    exact b1 x l l _ z ⟨rfl,l,rfl,h2,h4,h5⟩
   ·refine b2 x l o _ (by exact Nat.lt_of_not_le ‹_›) h2 ?_
    cases e:iA O key left k arr base (l+(o - l) / 2)with
    |true=>exact⟨rfl,_,_,rfl,by lia,by assumption,by lia,fun i hi=>up i _ (by exact Nat.le_of_lt_succ ‹_›) (by lia) e,h5⟩
    |false=>exact⟨rfl,_,_,rfl,by exact qN _ _,by lia,by lia,h4,fun i hi hn=>dn _ i hi hn e⟩
 cases eh:iA O key left k arr base hint with
 |true=>
  dsimp only
  rw[if_pos rfl]
  refine wpS_bind (wpS_mono (wpS_forRange (I:=fun x c st'=>st'=st∧∃l o,c=(none,l,o)∧l < o∧x < o∧hint+l < n∧iA O key left k arr base (hint+l)=true)
   (Q:=fun c st'=>st'=st∧∃l o,c=(none,l,o)∧l < o∧hint+l < n∧iA O key left k arr base (hint+l)=true∧(n - hint≤o∨iA O key left k arr base (hint+o)=false)) ?s1 ?s2 ⟨rfl,0,1,rfl,by exact zzC _,by exact zzC _,by assumption,eh⟩) ?s3)
  case s2=>
   rintro c st' ⟨rfl,l,o,rfl,h1,h2,h3,h4⟩
   exact⟨rfl,l,o,rfl,h1,h3,h4,.inl (by lia)⟩
  case s1=>
   rintro x c st' - hx ⟨rfl,l,o,rfl,h1,h2,h3,h4⟩
   dsimp only
   by_cases z:o≥n - hint
   ·rw[if_pos z]
    exact wpS_pure ⟨rfl,l,o,rfl,h1,h3,h4,.inl z⟩
   ·rw[if_neg z]
    refine wpS_bind (bey (by lia) ?_)
    cases e:iA O key left k arr base (hint+o)with
    |true=>exact wpS_pure ⟨rfl,o,2*o+1,rfl,by lia,by lia,by lia,e⟩
    |false=>exact wpS_pure ⟨rfl,l,o,rfl,h1,h3,h4,.inr e⟩
  case s3=>
   rintro c st' ⟨rfl,l,o,rfl,h1,h3,h4,h5⟩
   dsimp only
   have f1:hint+l+1≤hint+min o (n - hint):=by lia
   have f2:hint+min o (n - hint)≤n:=by lia
   have f3:∀i,i < hint+l+1→iA O key left k arr base i=true:=fun i hi=>up i _ (by exact Nat.le_of_lt_succ ‹_›) h3 h4
   have f4:∀i,hint+min o (n - hint)≤i→i < n→iA O key left k arr base i=false:=fun i hi hn=>by
    rcases h5 with h5 |h5
    ·lia
    ·exact dn (hint+o) i (by lia) hn h5
   revert f1 f2 f3 f4
   generalize hint+l+1=lo
   generalize hint+min o (n - hint)=hi
   refine fin (fun lo hq=>wpS_pure hq) (fun x lo hi R hz hR=>?_) (fun x lo hi R hz hn hR=>?_) lo hi
   ·dsimp only
    rw[if_pos hz]
    exact wpS_pure hR
   ·dsimp only
    rw[if_neg (by exact Nat.not_le.mpr ‹_›)]
    refine wpS_bind (bey (by lia) ?_)
    cases e:iA O key left k arr base (lo+(hi - lo) / 2)with
    |true=>rw[e]at hR;exact wpS_pure hR
    |false=>rw[e]at hR;exact wpS_pure hR
 |false=>
  dsimp only
  rw[if_neg (by simp)]
  refine wpS_bind (wpS_mono (wpS_forRange (I:=fun x c st'=>st'=st∧∃l o,c=(none,l,o)∧l < o∧x < o∧l≤hint∧iA O key left k arr base (hint - l)=false)
   (Q:=fun c st'=>st'=st∧∃l o,c=(none,l,o)∧l < o∧l≤hint∧iA O key left k arr base (hint - l)=false∧(hint+1≤o∨iA O key left k arr base (hint - o)=true)) ?s1 ?s2 ⟨rfl,0,1,rfl,by exact zzC _,by exact zzC _,by exact zz9 _,eh⟩) ?s3)
  case s2=>
   rintro c st' ⟨rfl,l,o,rfl,h1,h2,h3,h4⟩
   exact⟨rfl,l,o,rfl,h1,h3,h4,.inl (by lia)⟩
  case s1=>
   rintro x c st' - hx ⟨rfl,l,o,rfl,h1,h2,h3,h4⟩
   dsimp only
   by_cases z:o≥hint+1
   ·rw[if_pos z]
    exact wpS_pure ⟨rfl,l,o,rfl,h1,h3,h4,.inl z⟩
   ·rw[if_neg z]
    refine wpS_bind (bey (by exact zz8 (Nat.sub_le _ _) ‹_›) ?_)
    cases e:iA O key left k arr base (hint - o)with
    |false=>exact wpS_pure ⟨rfl,o,2*o+1,rfl,by lia,by lia,by exact Nat.le_of_not_lt ‹_›,e⟩
    |true=>exact wpS_pure ⟨rfl,l,o,rfl,h1,h3,h4,.inr e⟩
  case s3=>
   rintro c st' ⟨rfl,l,o,rfl,h1,h3,h4,h5⟩
   dsimp only
   have f1:hint+1 - min o (hint+1)≤hint - l:=by omega
   have f2:hint - l≤n:=by lia
   have f3:∀i,i < hint+1 - min o (hint+1)→iA O key left k arr base i=true:=fun i hi=>by
    rcases h5 with h5 |h5
    ·lia
    ·exact up i (hint - o) (by lia) (by exact zz8 (Nat.sub_le _ _) ‹_›) h5
   have f4:∀i,hint - l≤i→i < n→iA O key left k arr base i=false:=fun i hi hn=>dn _ i hi hn h4
   revert f1 f2 f3 f4
   generalize hint+1 - min o (hint+1)=lo
   generalize hint - l=hi
   refine fin (fun lo hq=>wpS_pure hq) (fun x lo hi R hz hR=>?_) (fun x lo hi R hz hn hR=>?_) lo hi
   ·dsimp only
    rw[if_pos hz]
    exact wpS_pure hR
   ·dsimp only
    rw[if_neg (by exact Nat.not_le.mpr ‹_›)]
    refine wpS_bind (bey (by lia) ?_)
    cases e:iA O key left k arr base (lo+(hi - lo) / 2)with
    |true=>rw[e]at hR;exact wpS_pure hR
    |false=>rw[e]at hR;exact wpS_pure hR
end
end NhLS
namespace NhLS
set_option autoImplicit false
open PySem PyProof.Rows
def Le(O:KeyOrd)(key:Keyed→O.α)(x y:Keyed):Prop:=O.blt (key y) (key x)=false
structure G (le:Keyed→Keyed→Prop) (T out ra rb:List Keyed):Prop where
 perm:(out++(ra++rb)).Perm T
 pa:(out++ra).Pairwise le
 pb:(out++rb).Pairwise le
def iJ(le:Keyed→Keyed→Prop)(T l:List Keyed):Prop:=l.Perm T∧l.Pairwise le
section
variable {le:Keyed→Keyed→Prop} {T out ra rb p:List Keyed}
theorem G.takeA(g:G le T out (p++ra) rb)(h:∀x∈p,∀y∈rb,le x y):G le T (out++p) ra rb where
 perm:=by have:=g.perm;simpa[oQ]using this
 pa:=by have:=g.pa;simpa[oQ]using this
 pb:=by
  have h1:=g.pa
  have h2:=g.pb
  simp only[List.pairwise_append,Zah]at h1 h2 ⊢
  refine⟨⟨h1.1,h1.2.1.1,fun x hx y hy=>h1.2.2 x hx y (.inl hy)⟩,h2.2.1,fun x hx y hy=>?_⟩
  rcases hx with hx |hx
  ·exact h2.2.2 x hx y hy
  ·exact h x hx y hy
theorem G.takeB(g:G le T out ra (p++rb))(h:∀x∈p,∀y∈ra,le x y):G le T (out++p) ra rb where
 perm:=by
  refine List.Perm.trans ?_ g.perm
  rw[oQ]
  refine List.Perm.append_left _ ?_
  rw[←oQ,←oQ]
  exact List.Perm.append_right _ List.perm_append_comm
 pb:=by have:=g.pb;simpa[oQ]using this
 pa:=by
  have h1:=g.pa
  have h2:=g.pb
  simp only[List.pairwise_append,Zah]at h1 h2 ⊢
  refine⟨⟨h2.1,h2.2.1.1,fun x hx y hy=>h2.2.2 x hx y (.inl hy)⟩,h1.2.1,fun x hx y hy=>?_⟩
  rcases hx with hx |hx
  ·exact h1.2.2 x hx y hy
  ·exact h x hx y hy
theorem G.endA(g:G le T out ra []):iJ le T (out++ra):=⟨by have:=g.perm;simpa using this,g.pa⟩
theorem G.endB(g:G le T out [] rb):iJ le T (out++rb):=⟨by have:=g.perm;simpa using this,g.pb⟩
end
section
variable {O:KeyOrd} {key:Keyed→O.α} {a b:Array Keyed} {T:List Keyed} {out:Array Keyed} {i j ia ib k:Nat} {x y z:Keyed}
theorem Le.refl(x:Keyed):Le O key x x:=O.irrefl _
theorem Le.trans(h1:Le O key x y)(h2:Le O key y z):Le O key x z:=KeyOrd.kle_trans (O:=O) (a:=key x) (b:=key y) (c:=key z) h1 h2
theorem Le.of(h:O.blt (key x) (key y)=true):Le O key x y:=KeyOrd.klt_asymm (O:=O) h
theorem i7(h:i < a.toList.length):a.toList[i]=at' a i:=by
 have h':i < a.size:=by simpa using h
 simp[at',Array.getD,h']
theorem uB(h:y∈a.toList.drop i):∃j,i≤j∧j < a.size∧y=at' a j:=by
 obtain⟨j,hj,e⟩:=List.mem_iff_getElem.mp h
 rw[List.length_drop,xI]at hj
 refine⟨i+j,by exact qN _ _,by exact Nat.add_lt_of_lt_sub' ‹_›,?_⟩
 rw[List.getElem_drop]at e
 rw[←e,i7]
theorem lK(h:i < a.size):at' a i∈a.toList:=by
 rw[←i7 (by simpa using h)]
 exact List.getElem_mem _
theorem sj(pa:a.toList.Pairwise (Le O key))(h:i≤j)(hj:j < a.size):Le O key (at' a i) (at' a j):=by
 by_cases e:i=j
 ·rw[e];exact Le.refl _
 ·have:=List.pairwise_iff_getElem.mp pa i j (by simp;exact zz8 ‹_› ‹_›) (by simpa using hj) (by exact zzB ‹_› ‹_›)
  rw[i7,i7]at this
  exact this
theorem wE(pa:a.toList.Pairwise (Le O key))(h:y∈a.toList.drop i):Le O key (at' a i) y:=by
 obtain⟨j,h1,h2,rfl⟩:=uB h
 exact sj pa h1 h2
theorem AD(h:i < a.size):a.toList.drop i=[at' a i]++a.toList.drop (i+1):=by
 rw[FK (by simpa using h),i7]
 rfl
theorem AE(k:Nat):a.toList.drop i=(a.extract i (i+k)).toList++a.toList.drop (i+k):=by
 rw[Array.toList_extract,List.extract_eq_take_drop,CN,←List.drop_drop,List.take_append_drop]
theorem nK:(a.extract i).toList=a.toList.drop i:=by
 rw[Array.toList_extract,List.extract_eq_take_drop]
 exact List.take_of_length_le (by simp)
theorem uC(h:a.size≤i):a.toList.drop i=[]:=List.drop_eq_nil_of_le (by simpa using h)
theorem Eu(h:x∈(a.extract i (i+k)).toList):∃j,j < k∧i+j < a.size∧x=at' a (i+j):=by
 rw[Array.toList_extract,List.extract_eq_take_drop,CN]at h
 obtain⟨j,hj,e⟩:=List.mem_iff_getElem.mp h
 rw[List.length_take,List.length_drop,xI]at hj
 refine⟨j,by lia,by lia,?_⟩
 rw[List.getElem_take,List.getElem_drop]at e
 rw[←e,i7]
theorem G.pushA(g:G (Le O key) T out.toList (a.toList.drop ia) (b.toList.drop ib))(h:ia < a.size)(hl:∀y∈b.toList.drop ib,Le O key (at' a ia) y):G (Le O key) T (out.push (at' a ia)).toList (a.toList.drop (ia+1)) (b.toList.drop ib):=by
 rw[AD h]at g
 rw[Array.toList_push]
 exact g.takeA fun x hx y hy=>by rw[Zaf.mp hx];exact hl y hy
theorem G.pushB(g:G (Le O key) T out.toList (a.toList.drop ia) (b.toList.drop ib))(h:ib < b.size)(hl:∀y∈a.toList.drop ia,Le O key (at' b ib) y):G (Le O key) T (out.push (at' b ib)).toList (a.toList.drop ia) (b.toList.drop (ib+1)):=by
 rw[AD h]at g
 rw[Array.toList_push]
 exact g.takeB fun x hx y hy=>by rw[Zaf.mp hx];exact hl y hy
theorem G.blkA(g:G (Le O key) T out.toList (a.toList.drop ia) (b.toList.drop ib))(k:Nat)(hl:∀j,j < k→ia+j < a.size→∀y∈b.toList.drop ib,Le O key (at' a (ia+j)) y):G (Le O key) T (out++a.extract ia (ia+k)).toList (a.toList.drop (ia+k)) (b.toList.drop ib):=by
 rw[AE k]at g
 rw[Zb]
 exact g.takeA fun x hx y hy=>by obtain⟨j,h1,h2,rfl⟩:=Eu hx;exact hl j h1 h2 y hy
theorem G.blkB(g:G (Le O key) T out.toList (a.toList.drop ia) (b.toList.drop ib))(k:Nat)(hl:∀j,j < k→ib+j < b.size→∀y∈a.toList.drop ia,Le O key (at' b (ib+j)) y):G (Le O key) T (out++b.extract ib (ib+k)).toList (a.toList.drop ia) (b.toList.drop (ib+k)):=by
 rw[AE (a:=b) k]at g
 rw[Zb]
 exact g.takeB fun x hx y hy=>by obtain⟨j,h1,h2,rfl⟩:=Eu hx;exact hl j h1 h2 y hy
theorem G.doneB(g:G (Le O key) T out.toList (a.toList.drop ia) (b.toList.drop ib))(h:b.size≤ib):iJ (Le O key) T (out++a.extract ia++b.extract ib).toList:=by
 rw[Zb,Zb,nK,nK,uC h,oR]
 rw[uC h]at g
 exact g.endA
theorem G.doneA(g:G (Le O key) T out.toList (a.toList.drop ia) (b.toList.drop ib))(h:a.size≤ia):iJ (Le O key) T (out++a.extract ia++b.extract ib).toList:=by
 rw[Zb,Zb,nK,nK,uC h,oR]
 rw[uC h]at g
 exact g.endB
theorem G.lastA(g:G (Le O key) T out.toList (a.toList.drop ia) (b.toList.drop ib))(h:ia+1=a.size)(h1:∀y∈b.toList,Le O key y (at' a (a.size - 1))):iJ (Le O key) T (out++b.extract ib++a.extract ia).toList:=by
 rw[Zb,Zb,nK,nK]
 have g':G (Le O key) T out.toList (a.toList.drop ia) (b.toList.drop ib++[]):=by rw[oR];exact g
 refine(g'.takeB fun x hx y hy=>?_).endA
 obtain⟨j,q1,q2,rfl⟩:=uB hy
 rw[show j=a.size - 1 by lia]
 exact h1 x (List.mem_of_mem_drop hx)
end
def SS(st st':SortSt):Prop:=∃g,st'=SortSt.mk' (kindOf st) (arrOf st) (pendingOf st) g (failedOf st)
theorem SS.refl(st:SortSt):SS st st:=⟨gallopOf st,rfl⟩
theorem SS.kind{st st':SortSt}(h:SS st st'):kindOf st'=kindOf st:=by obtain⟨g,rfl⟩:=h;rfl
section
variable {prog:Program} {w:World} {A:Around} {E:Value→Shared→Prop} {s:Shared} {κ:SortKind} {O:KeyOrd} {key:Keyed→O.α} {dom:Keyed→Prop} {st:SortSt}
def LJ:Nat→StateT SortSt Sem Unit:=sortPriv% PySem.Builtin.setMinGallop
theorem uD{st':SortSt}{g:Nat}{Q:Unit→SortSt→Prop}(hs:SS st st')(h:∀st2,SS st st2→Q () st2):wpS (model prog w) A E s (LJ g) Q st':=
 wpS_modify (h _ (by obtain⟨g',rfl⟩:=hs;exact⟨g,rfl⟩))
theorem bj{c:Prop}[Decidable c]{x y:StateT SortSt Sem α}{Q:α→SortSt→Prop}(hc:c)(h:wpS (model prog w) A E s x Q st):wpS (model prog w) A E s (if c then x else y) Q st:=by rw[if_pos hc];exact h
theorem bg{c:Prop}[Decidable c]{x y:StateT SortSt Sem α}{Q:α→SortSt→Prop}(hc:¬c)(h:wpS (model prog w) A E s y Q st):wpS (model prog w) A E s (if c then x else y) Q st:=by rw[if_neg hc];exact h
theorem JO{m:StateT SortSt Sem α}{Q:α→SortSt→Prop}(h:∀R,R=Q→wpS (model prog w) A E s m R st):wpS (model prog w) A E s m Q st:=h Q rfl
theorem LK{c:Prop}[Decidable c](f:Nat→StateT SortSt Sem α){x y:Nat}{Q:α→SortSt→Prop}(h:∀m,wpS (model prog w) A E s (f m) Q st):wpS (model prog w) A E s (if c then f x else f y) Q st:=by
 split <;> exact h _
theorem Cd(C:Cmp prog w A s κ O key dom){a b:Array Keyed}{Q:Array Keyed→SortSt→Prop}(hk:kindOf st=κ)(da:∀x∈a.toList,dom x)(db:∀x∈b.toList,dom x)(ha:0 < a.size)(hb:0 < b.size)
  (pa:a.toList.Pairwise (Le O key)) (pb:b.toList.Pairwise (Le O key)) (h0:O.blt (key (at' b 0)) (key (at' a 0))=true) (h1:∀y∈b.toList,Le O key y (at' a (a.size - 1)))
  (h:∀r st',SS st st'→iJ (Le O key) (a.toList++b.toList) r.toList→Q r st'):wpS (model prog w) A E s (Er a b) Q st:=by
 refine wpS_bind (wpS_lift (wpAny_rule ⟨rfl,?_⟩))
 refine wpS_bind (g_ hb ?_)
 obtain⟨T,hT⟩:∃T,T=a.toList++b.toList:=⟨_,rfl⟩
 rw[←hT]at h
 have g0:G (Le O key) T (#[at' b 0]:Array Keyed).toList (a.toList.drop 0) (b.toList.drop 1):=by
  have q:G (Le O key) T (#[]:Array Keyed).toList (a.toList.drop 0) (b.toList.drop 0):=⟨by simp[hT],by simpa using pa,by simpa using pb⟩
  exact q.pushB hb fun y hy=>(Le.of h0).trans (wE pa hy)
 have dA:∀i,i < a.size→dom (at' a i):=fun i hi=>da _ (lK hi)
 have dB:∀i,i < b.size→dom (at' b i):=fun i hi=>db _ (lK hi)
 extract_lets o0 i0 i1
 by_cases e1:(1 == b.size)=true
 ·refine bj e1 ?_
  exact wpS_pure (h _ st (SS.refl _) (g0.doneB (by simp at e1;exact Nat.le_of_eq (Eq.symm ‹_›))))
 refine bg e1 ?_
 by_cases e2:(0+1 == a.size)=true
 ·refine bj e2 ?_
  exact wpS_pure (h _ st (SS.refl _) (g0.lastA (by simpa using e2) h1))
 refine bg e2 ?_
 refine wpS_bind (wpS_get ?_)
 refine wpS_bind (wpS_mono (wpS_forRange (I:=fun x c st'=>SS st st'∧∃out ia ib mg,c=(none,out,ia,ib,mg)∧ia+1 < a.size∧ib < b.size∧x < ia+ib∧G (Le O key) T out.toList (a.toList.drop ia) (b.toList.drop ib))
  (Q:=fun c st'=>SS st st'∧∃r o,c=(some r,o)∧iJ (Le O key) T r.toList) ?s1 ?s2 ⟨SS.refl _,_,0,1,_,rfl,by simp at e2;exact zzB ‹_› ‹_›,by simp at e1;exact zzB ‹_› ‹_›,by exact zzC _,g0⟩) ?s3)
 case s3=>
  rintro c st' ⟨hs,r,o,rfl,hg⟩
  exact wpS_pure (h r st' hs hg)
 case s2=>
  rintro c st' ⟨hs,out,ia,ib,mg,rfl,q1,q2,q3,g⟩
  lia
 case s1=>
  rintro x c st1 - hx ⟨hs,out,ia,ib,mg,rfl,q1,q2,q3,g⟩
  refine wpS_bind (wpS_mono (wpS_forRange (I:=fun y c st'=>SS st st'∧∃out ia ib ac bc,c=(none,out,ia,ib,ac,bc)∧ia+1 < a.size∧ib < b.size∧x < ia+ib∧(y=0∨x+1 < ia+ib)∧G (Le O key) T out.toList (a.toList.drop ia) (b.toList.drop ib))
   (Q:=fun c st'=>SS st st'∧((∃r o,c=(some r,o)∧iJ (Le O key) T r.toList)∨∃out ia ib ac bc,c=(none,out,ia,ib,ac,bc)∧ia+1 < a.size∧ib < b.size∧x+1 < ia+ib∧G (Le O key) T out.toList (a.toList.drop ia) (b.toList.drop ib))) ?t1 ?t2 ⟨hs,out,ia,ib,0,0,rfl,q1,q2,q3,.inl rfl,g⟩) ?t3)
  case t2=>
   rintro c st' ⟨hs,out,ia,ib,ac,bc,rfl,q1,q2,q3,q4,g⟩
   exact⟨hs,.inr ⟨out,ia,ib,ac,bc,rfl,q1,q2,by lia,g⟩⟩
  case t1=>
   rintro y c st2 - hy ⟨hs,out,ia,ib,ac,bc,rfl,q1,q2,q3,q4,g⟩
   have q0:ia < a.size:=by exact Nat.lt_of_succ_lt ‹_›
   refine wpS_bind (g_ q2 ?_)
   refine wpS_bind (g_ q0 ?_)
   refine wpS_bind (Et C (hs.kind.trans hk) (dB _ q2) (dA _ q0) ?_)
   cases e:O.blt (key (at' b ib)) (key (at' a ia))with
   |true=>
    refine wpS_bind (g_ q2 ?_)
    have g':=g.pushB q2 (fun y hy=>(Le.of e).trans (wE pa hy))
    by_cases z:(ib+1 == b.size)=true
    ·exact bj z (wpS_pure ⟨hs,.inl ⟨_,_,rfl,g'.doneB (by simp at z;exact Nat.le_of_eq (Eq.symm ‹_›))⟩⟩)
    ·refine bg z ?_
     have z':ib+1 < b.size:=by simp at z;exact zzB ‹_› ‹_›
     dsimp only
     split
     ·exact wpS_pure ⟨hs,.inr ⟨_,_,_,_,_,rfl,q1,z',by exact Nat.succ_lt_succ ‹_›,g'⟩⟩
     ·exact wpS_pure ⟨hs,_,_,_,_,_,rfl,q1,z',by exact xJ ‹_›,.inr (by exact Nat.succ_lt_succ ‹_›),g'⟩
   |false=>
    refine wpS_bind (g_ q0 ?_)
    have g':=g.pushA (by assumption) (fun y hy=>Le.trans e (wE pb hy))
    by_cases z:(ia+1+1 == a.size)=true
    ·exact bj z (wpS_pure ⟨hs,.inl ⟨_,_,rfl,g'.lastA (by simpa using z) h1⟩⟩)
    ·refine bg z ?_
     have z':ia+1+1 < a.size:=by simp at z;exact zzB ‹_› ‹_›
     dsimp only
     split
     ·exact wpS_pure ⟨hs,.inr ⟨_,_,_,_,_,rfl,z',q2,by lia,g'⟩⟩
     ·exact wpS_pure ⟨hs,_,_,_,_,_,rfl,z',q2,by lia,.inr (by lia),g'⟩
  case t3=>
   rintro c st2 ⟨hs,⟨r,o,rfl,hg⟩ |⟨out,ia,ib,ac,bc,rfl,q1,q2,q3,g⟩⟩
   ·exact wpS_pure ⟨hs,r,_,rfl,hg⟩
   ·refine wpS_bind (wpS_lift (wpAny_rule ⟨rfl,?_⟩))
    refine wpS_bind (wpS_mono (wpS_forRange (I:=fun y c st'=>SS st st'∧∃out ia ib mg ac bc,c=(none,out,ia,ib,mg,ac,bc)∧ia+1 < a.size∧ib < b.size∧x+1 < ia+ib∧G (Le O key) T out.toList (a.toList.drop ia) (b.toList.drop ib))
     (Q:=fun c st'=>SS st st'∧((∃r o,c=(some r,o)∧iJ (Le O key) T r.toList)∨∃out ia ib mg ac bc,c=(none,out,ia,ib,mg,ac,bc)∧ia+1 < a.size∧ib < b.size∧x+1 < ia+ib∧G (Le O key) T out.toList (a.toList.drop ia) (b.toList.drop ib))) ?u1 ?u2 ⟨hs,out,ia,ib,_,ac,bc,rfl,q1,q2,q3,g⟩) ?u3)
    case u2=>
     rintro c st' ⟨hs,out,ia,ib,mg,ac,bc,rfl,q1,q2,q3,g⟩
     exact⟨hs,.inr ⟨out,ia,ib,mg,ac,bc,rfl,q1,q2,by assumption,g⟩⟩
    case u3=>
     rintro c st3 ⟨hs,⟨r,o,rfl,hg⟩ |⟨out,ia,ib,mg,ac,bc,rfl,q1,q2,q3,g⟩⟩
     ·exact wpS_pure ⟨hs,r,_,rfl,hg⟩
     ·exact wpS_bind (uD hs fun st4 h4=>wpS_pure ⟨h4,out,ia,ib,_,rfl,q1,q2,q3,g⟩)
    case u1=>
     rintro y c st3 - hy ⟨hs,out,ia,ib,mg,ac,bc,rfl,q1,q2,q3,g⟩
     refine JO fun R hR=>?_
     have Rd:∀r o st',SS st st'→iJ (Le O key) T r.toList→R (.done (some r,o)) st':=fun r o st' a1 a2=>by rw[hR];exact⟨a1,.inl ⟨r,o,rfl,a2⟩⟩
     have Rn:∀out ia ib mg ac bc st',SS st st'→ia+1 < a.size→ib < b.size→x+1 < ia+ib→G (Le O key) T out.toList (a.toList.drop ia) (b.toList.drop ib)→R (.done (none,out,ia,ib,mg,ac,bc)) st':=
      fun out ia ib mg ac bc st' a1 a2 a3 a4 a5=>by rw[hR];exact⟨a1,.inr ⟨_,_,_,_,_,_,rfl,a2,a3,a4,a5⟩⟩
     have Ry:∀out ia ib mg ac bc st',SS st st'→ia+1 < a.size→ib < b.size→x+1 < ia+ib→G (Le O key) T out.toList (a.toList.drop ia) (b.toList.drop ib)→R (.yield (none,out,ia,ib,mg,ac,bc)) st':=
      fun out ia ib mg ac bc st' a1 a2 a3 a4 a5=>by rw[hR];exact⟨a1,_,_,_,_,_,_,rfl,a2,a3,a4,a5⟩
     clear hR
     extract_lets
     rename Unit→Nat→_=>jp
     refine LK (jp ()) fun mg'=>?_
     refine wpS_bind (uD hs fun st4 h4=>?_)
     refine wpS_bind (g_ q2 ?_)
     refine wpS_bind (i5 C (base:=ia) (n:=a.size - ia) (hint:=0) (h4.kind.trans hk) (by exact Nat.sub_pos_of_lt (Nat.lt_of_succ_lt ‹_›)) (by exact Nat.le_of_eq (zzF (lq (Nat.lt_of_succ_lt ‹_›)))) (dB _ q2) dA ?m1 fun k hk1 hk2 hk3=>?_)
     case m1=>
      intro i j hij hj e
      simp only[iA,Bool.not_eq_true',iy]at e ⊢
      exact(sj pa (by lia) (by exact Nat.add_lt_of_lt_sub' ‹_›):Le O key (at' a (ia+i)) (at' a (ia+j))).trans e
     simp only[iA,Bool.not_eq_true',Bool.not_eq_false',iy]at hk2 hk3
     dsimp -zeta only
     extract_lets
     rename Unit→Array Keyed→Nat→_=>jp1
     have J1:∀(out:Array Keyed) (ia:Nat),ia+1 < a.size→x+1 < ia+ib→G (Le O key) T out.toList (a.toList.drop ia) (b.toList.drop ib)→(∀y∈a.toList.drop ia,Le O key (at' b ib) y)→wpS (model prog w) A E s (jp1 () out ia) R st4:=by
      intro out ia q1 q3 g hl
      have q0:ia < a.size:=by exact Nat.lt_of_succ_lt ‹_›
      refine wpS_bind (g_ q2 ?_)
      have g':=g.pushB q2 hl
      by_cases z:(ib+1 == b.size)=true
      ·exact bj z (wpS_pure (Rd _ _ _ h4 (g'.doneB (by simp at z;exact Nat.le_of_eq (Eq.symm ‹_›)))))
      refine bg z ?_
      have z':ib+1 < b.size:=by simp at z;exact zzB ‹_› ‹_›
      refine wpS_bind (g_ q0 ?_)
      refine wpS_bind (i5 C (base:=ib+1) (n:=b.size - (ib+1)) (hint:=0) (h4.kind.trans hk) (by exact Nat.sub_pos_of_lt ‹_›) (by exact Nat.le_of_eq (zzF ‹_›)) (dA _ q0) dB ?m2 fun k' hk1' hk2' hk3'=>?_)
      case m2=>
       intro i j hij hj e
       simp only[iA,if_true]at e ⊢
       exact KeyOrd.klt_of_kle_of_klt (O:=O) (sj pb (by lia) (by exact Nat.add_lt_of_lt_sub' ‹_›):Le O key (at' b (ib+1+i)) (at' b (ib+1+j))) e
      simp only[iA,if_true]at hk2' hk3'
      dsimp -zeta only
      extract_lets
      rename Unit→Array Keyed→Nat→_=>jp2
      have J2:∀(out:Array Keyed) (ib':Nat),ib' < b.size→x+1 < ia+ib'→G (Le O key) T out.toList (a.toList.drop ia) (b.toList.drop ib')→(∀y∈b.toList.drop ib',Le O key (at' a ia) y)→wpS (model prog w) A E s (jp2 () out ib') R st4:=by
       intro out ib' p2 p3 g hl
       refine wpS_bind (g_ q0 ?_)
       have g':=g.pushA q0 hl
       by_cases z:(ia+1+1 == a.size)=true
       ·exact bj z (wpS_pure (Rd _ _ _ h4 (g'.lastA (by simpa using z) h1)))
       refine bg z ?_
       have z':ia+1+1 < a.size:=by simp at z;exact zzB ‹_› ‹_›
       by_cases z2:(decide (k < 7)&&decide (k' < 7))=true
       ·exact bj z2 (wpS_pure (Rn _ _ _ _ _ _ _ h4 z' p2 (by lia) g'))
       ·exact bg z2 (wpS_pure (Ry _ _ _ _ _ _ _ h4 z' p2 (by lia) g'))
      clear_value jp2
      have tl:∀y∈b.toList.drop (ib+1+k'),Le O key (at' a ia) y:=fun y hy=>by
       obtain⟨j,r1,r2,rfl⟩:=uB hy
       have:=hk3' (j - (ib+1)) (by exact Nat.le_sub_of_add_le' ‹_›) (by exact Nat.sub_lt_sub_right (jP (qN _ _) ‹_›) ‹_›)
       rwa [show ib+1+(j - (ib+1))=j by exact zzF (jP (qN _ _) ‹_›)]at this
      by_cases z2:k' > 0
      ·refine bj z2 ?_
       have g2:=g'.blkB k' fun j j1 j2 y hy=>(Le.of (hk2' j j1)).trans (wE pa hy)
       by_cases z3:(ib+1+k' == b.size)=true
       ·exact bj z3 (wpS_pure (Rd _ _ _ h4 (g2.doneB (by simp at z3;exact Nat.le_of_eq (Eq.symm ‹_›)))))
       ·exact bg z3 (J2 _ (ib+1+k') (by simp at z3;lia) (by lia) g2 tl)
      ·have k0:k'=0:=by exact Nat.eq_zero_of_not_pos ‹_›
       subst k0
       exact bg z2 (J2 _ (ib+1) z' (by exact xJ ‹_›) g' tl)
     clear_value jp1
     have tl:∀y∈a.toList.drop (ia+k),Le O key (at' b ib) y:=fun y hy=>by
      obtain⟨j,r1,r2,rfl⟩:=uB hy
      have:=hk3 (j - ia) (by exact Nat.le_sub_of_add_le' ‹_›) (by exact Nat.sub_lt_sub_right (jP (qN _ _) ‹_›) ‹_›)
      rw[show ia+(j - ia)=j by exact zzF (jP (qN _ _) ‹_›)]at this
      exact Le.of this
     by_cases z2:k > 0
     ·refine bj z2 ?_
      have g2:=g.blkA k fun j j1 j2 y hy=>Le.trans (hk2 j j1) (wE pb hy)
      by_cases z3:(ia+k+1 == a.size)=true
      ·exact bj z3 (wpS_pure (Rd _ _ _ h4 (g2.lastA (by simpa using z3) h1)))
      refine bg z3 ?_
      by_cases z4:(ia+k == a.size)=true
      ·exact bj z4 (wpS_pure (Rd _ _ _ h4 (g2.doneA (by simp at z4;exact Nat.le_of_eq (Eq.symm ‹_›)))))
      ·exact bg z4 (J1 _ (ia+k) (by simp at z3 z4;lia) (by lia) g2 tl)
     ·have k0:k=0:=by exact Nat.eq_zero_of_not_pos ‹_›
      subst k0
      exact bg z2 (J1 _ ia q1 q3 g tl)
end
end NhLS
namespace NhLS
set_option autoImplicit false
open PySem PyProof.Rows
structure H (le:Keyed→Keyed→Prop) (T ra rb out:List Keyed):Prop where
 perm:(ra++rb++out).Perm T
 pa:(ra++out).Pairwise le
 pb:(rb++out).Pairwise le
section
variable {le:Keyed→Keyed→Prop} {T out ra rb p:List Keyed}
theorem H.takeA(g:H le T (ra++p) rb out)(h:∀x∈p,∀y∈rb,le y x):H le T ra rb (p++out) where
 perm:=by
  refine List.Perm.trans ?_ g.perm
  rw[←oQ]
  refine List.Perm.append_right _ ?_
  rw[oQ,oQ]
  exact List.Perm.append_left _ List.perm_append_comm
 pa:=by have:=g.pa;simpa[oQ]using this
 pb:=by
  have h1:=g.pa
  have h2:=g.pb
  simp only[List.pairwise_append,Zah]at h1 h2 ⊢
  refine⟨h2.1,⟨h1.1.2.1,h1.2.1,fun x hx y hy=>h1.2.2 x (.inr hx) y hy⟩,fun x hx y hy=>?_⟩
  rcases hy with hy |hy
  ·exact h y hy x hx
  ·exact h2.2.2 x hx y hy
theorem H.takeB(g:H le T ra (rb++p) out)(h:∀x∈p,∀y∈ra,le y x):H le T ra rb (p++out) where
 perm:=by have:=g.perm;simpa[oQ]using this
 pb:=by have:=g.pb;simpa[oQ]using this
 pa:=by
  have h1:=g.pa
  have h2:=g.pb
  simp only[List.pairwise_append,Zah]at h1 h2 ⊢
  refine⟨h1.1,⟨h2.1.2.1,h2.2.1,fun x hx y hy=>h2.2.2 x (.inr hx) y hy⟩,fun x hx y hy=>?_⟩
  rcases hy with hy |hy
  ·exact h y hy x hx
  ·exact h1.2.2 x hx y hy
theorem H.endA(g:H le T ra [] out):iJ le T (ra++out):=⟨by have:=g.perm;simpa using this,g.pa⟩
theorem H.endB(g:H le T [] rb out):iJ le T (rb++out):=⟨by have:=g.perm;simpa using this,g.pb⟩
end
section
variable {O:KeyOrd} {key:Keyed→O.α} {a b:Array Keyed} {T:List Keyed} {out:Array Keyed} {i j na nb k:Nat} {x y z:Keyed}
theorem uE(h:y∈a.toList.take i):∃j,j < i∧j < a.size∧y=at' a j:=by
 obtain⟨j,hj,e⟩:=List.mem_iff_getElem.mp h
 rw[List.length_take,xI]at hj
 refine⟨j,by lia,by lia,?_⟩
 rw[List.getElem_take]at e
 rw[←e,i7]
theorem AF(pa:a.toList.Pairwise (Le O key))(hi:i < a.size)(h:y∈a.toList.take (i+1)):Le O key y (at' a i):=by
 obtain⟨j,h1,h2,rfl⟩:=uE h
 exact sj pa (by exact Nat.le_of_lt_succ ‹_›) hi
theorem AG(h:i < a.size):a.toList.take (i+1)=a.toList.take i++[at' a i]:=by
 rw[List.take_succ_eq_append_getElem (by simpa using h),i7]
theorem uF(h:i≤j):a.toList.take j=a.toList.take i++(a.extract i j).toList:=by
 rw[Array.toList_extract,List.extract_eq_take_drop,←List.take_add]
 congr 1
 lia
theorem nM:(a.extract 0 i).toList=a.toList.take i:=by
 rw[Array.toList_extract,List.extract_eq_take_drop]
 rfl
theorem uG(h:x∈(a.extract i j).toList):∃k,i≤k∧k < j∧k < a.size∧x=at' a k:=by
 rw[Array.toList_extract,List.extract_eq_take_drop]at h
 obtain⟨k,hk,e⟩:=List.mem_iff_getElem.mp h
 rw[List.length_take,List.length_drop,xI]at hk
 refine⟨i+k,by exact qN _ _,by lia,by lia,?_⟩
 rw[List.getElem_take,List.getElem_drop]at e
 rw[←e,i7]
theorem H.pushA(g:H (Le O key) T (a.toList.take (na+1)) (b.toList.take nb) out.toList.reverse)(h:na < a.size)(hl:∀y∈b.toList.take nb,Le O key y (at' a na)):H (Le O key) T (a.toList.take na) (b.toList.take nb) (out.push (at' a na)).toList.reverse:=by
 rw[AG h]at g
 rw[Array.toList_push,List.reverse_append]
 exact g.takeA fun x hx y hy=>by rw[Zaf.mp hx];exact hl y hy
theorem H.pushB(g:H (Le O key) T (a.toList.take na) (b.toList.take (nb+1)) out.toList.reverse)(h:nb < b.size)(hl:∀y∈a.toList.take na,Le O key y (at' b nb)):H (Le O key) T (a.toList.take na) (b.toList.take nb) (out.push (at' b nb)).toList.reverse:=by
 rw[AG h]at g
 rw[Array.toList_push,List.reverse_append]
 exact g.takeB fun x hx y hy=>by rw[Zaf.mp hx];exact hl y hy
theorem H.blkA(g:H (Le O key) T (a.toList.take na) (b.toList.take nb) out.toList.reverse)(h:i≤na)(hl:∀j,i≤j→j < na→j < a.size→∀y∈b.toList.take nb,Le O key y (at' a j)):H (Le O key) T (a.toList.take i) (b.toList.take nb) (out++(a.extract i na).reverse).toList.reverse:=by
 rw[uF h]at g
 rw[Zb,List.reverse_append,Array.toList_reverse,List.reverse_reverse]
 exact g.takeA fun x hx y hy=>by obtain⟨j,h1,h2,h3,rfl⟩:=uG hx;exact hl j h1 h2 h3 y hy
theorem H.blkB(g:H (Le O key) T (a.toList.take na) (b.toList.take nb) out.toList.reverse)(h:i≤nb)(hl:∀j,i≤j→j < nb→j < b.size→∀y∈a.toList.take na,Le O key y (at' b j)):H (Le O key) T (a.toList.take na) (b.toList.take i) (out++(b.extract i nb).reverse).toList.reverse:=by
 rw[uF (a:=b) h]at g
 rw[Zb,List.reverse_append,Array.toList_reverse,List.reverse_reverse]
 exact g.takeB fun x hx y hy=>by obtain⟨j,h1,h2,h3,rfl⟩:=uG hx;exact hl j h1 h2 h3 y hy
theorem H.doneA(g:H (Le O key) T (a.toList.take na) (b.toList.take nb) out.toList.reverse)(h:na=0):iJ (Le O key) T (a.extract 0 na++b.extract 0 nb++out.reverse).toList:=by
 subst h
 rw[Zb,Zb,nM,nM,Array.toList_reverse]
 exact g.endB
theorem H.doneB(g:H (Le O key) T (a.toList.take na) (b.toList.take nb) out.toList.reverse)(h:nb=0):iJ (Le O key) T (a.extract 0 na++b.extract 0 nb++out.reverse).toList:=by
 subst h
 rw[Zb,Zb,nM,nM,Array.toList_reverse,List.take_zero,oR]
 exact g.endA
theorem H.firstB(g:H (Le O key) T (a.toList.take na) (b.toList.take nb) out.toList.reverse)(h:nb=1)(h1:∀y∈a.toList,Le O key (at' b 0) y):iJ (Le O key) T (b.extract 0 nb++a.extract 0 na++out.reverse).toList:=by
 rw[Zb,Zb,nM,nM,Array.toList_reverse,oQ]
 have g':H (Le O key) T ([]++a.toList.take na) (b.toList.take nb) out.toList.reverse:=g
 refine(g'.takeA fun x hx y hy=>?_).endB
 obtain⟨j,q1,q2,rfl⟩:=uE hy
 rw[show j=0 by lia]
 exact h1 x (List.mem_of_mem_take hx)
end
section
variable {prog:Program} {w:World} {A:Around} {E:Value→Shared→Prop} {s:Shared} {κ:SortKind} {O:KeyOrd} {key:Keyed→O.α} {dom:Keyed→Prop} {st:SortSt}
theorem iK{c:Prop}[Decidable c]{x y:StateT SortSt Sem α}{Q:α→SortSt→Prop}(h1:c→wpS (model prog w) A E s x Q st)(h2:¬c→wpS (model prog w) A E s y Q st):wpS (model prog w) A E s (if c then x else y) Q st:=by
 split
 ·rename_i z;exact h1 z
 ·rename_i z;exact h2 z
theorem Ce(C:Cmp prog w A s κ O key dom){a b:Array Keyed}{Q:Array Keyed→SortSt→Prop}(hk:kindOf st=κ)(da:∀x∈a.toList,dom x)(db:∀x∈b.toList,dom x)(ha:0 < a.size)(hb:0 < b.size)
  (pa:a.toList.Pairwise (Le O key)) (pb:b.toList.Pairwise (Le O key)) (h0:∀y∈b.toList,Le O key y (at' a (a.size - 1))) (h1:∀y∈a.toList,Le O key (at' b 0) y)
  (h:∀r st',SS st st'→iJ (Le O key) (a.toList++b.toList) r.toList→Q r st'):wpS (model prog w) A E s (Es a b) Q st:=by
 refine wpS_bind (wpS_lift (wpAny_rule ⟨rfl,?_⟩))
 have ha':a.size - 1 < a.size:=by exact Nat.sub_lt ‹_› Nat.one_pos
 refine wpS_bind (g_ ha' ?_)
 obtain⟨T,hT⟩:∃T,T=a.toList++b.toList:=⟨_,rfl⟩
 rw[←hT]at h
 have g0:H (Le O key) T (a.toList.take (a.size - 1)) (b.toList.take b.size) (#[at' a (a.size - 1)]:Array Keyed).toList.reverse:=by
  have q:H (Le O key) T (a.toList.take (a.size - 1+1)) (b.toList.take b.size) (#[]:Array Keyed).toList.reverse:=by
   have e1:a.toList.take (a.size - 1+1)=a.toList:=List.take_of_length_le (by simp;lia)
   have e2:b.toList.take b.size=b.toList:=List.take_of_length_le (by simp)
   rw[e1,e2]
   exact⟨by simp[hT],by simpa using pa,by simpa using pb⟩
  exact q.pushA ha' fun y hy=>h0 y (List.mem_of_mem_take hy)
 have dA:∀i,i < a.size→dom (at' a i):=fun i hi=>da _ (lK hi)
 have dB:∀i,i < b.size→dom (at' b i):=fun i hi=>db _ (lK hi)
 by_cases e1:(a.size - 1 == 0)=true
 ·refine bj e1 ?_
  exact wpS_pure (h _ st (SS.refl _) (g0.doneA (by simpa using e1)))
 refine bg e1 ?_
 by_cases e2:(b.size == 1)=true
 ·refine bj e2 ?_
  exact wpS_pure (h _ st (SS.refl _) (g0.firstB (by simpa using e2) h1))
 refine bg e2 ?_
 refine wpS_bind (wpS_get ?_)
 refine wpS_bind (wpS_mono (wpS_forRange (I:=fun x c st'=>SS st st'∧∃na nb out mg,c=(none,na,nb,out,mg)∧na≤a.size∧1≤na∧nb≤b.size∧2≤nb∧na+nb+x < a.size+b.size∧H (Le O key) T (a.toList.take na) (b.toList.take nb) out.toList.reverse)
  (Q:=fun c st'=>SS st st'∧∃r o,c=(some r,o)∧iJ (Le O key) T r.toList) ?s1 ?s2 ⟨SS.refl _,a.size - 1,b.size,_,_,rfl,by exact Nat.sub_le _ _,by simp at e1;exact Nat.pos_of_ne_zero ‹_›,by exact fz _,by simp at e2;lia,by lia,g0⟩) ?s3)
 case s3=>
  rintro c st' ⟨hs,r,o,rfl,hg⟩
  exact wpS_pure (h r st' hs hg)
 case s2=>
  rintro c st' ⟨hs,na,nb,out,mg,rfl,p1,q1,p2,q2,q3,g⟩
  lia
 case s1=>
  rintro x c st1 - hx ⟨hs,na,nb,out,mg,rfl,p1,q1,p2,q2,q3,g⟩
  refine wpS_bind (wpS_mono (wpS_forRange (I:=fun y c st'=>SS st st'∧∃na nb out ac bc,c=(none,na,nb,out,ac,bc)∧na≤a.size∧1≤na∧nb≤b.size∧2≤nb∧na+nb+x < a.size+b.size∧(y=0∨na+nb+(x+1) < a.size+b.size)∧H (Le O key) T (a.toList.take na) (b.toList.take nb) out.toList.reverse)
   (Q:=fun c st'=>SS st st'∧((∃r o,c=(some r,o)∧iJ (Le O key) T r.toList)∨∃na nb out ac bc,c=(none,na,nb,out,ac,bc)∧na≤a.size∧1≤na∧nb≤b.size∧2≤nb∧na+nb+(x+1) < a.size+b.size∧H (Le O key) T (a.toList.take na) (b.toList.take nb) out.toList.reverse)) ?t1 ?t2 ⟨hs,na,nb,out,0,0,rfl,p1,q1,p2,q2,q3,.inl rfl,g⟩) ?t3)
  case t2=>
   rintro c st' ⟨hs,na,nb,out,ac,bc,rfl,p1,q1,p2,q2,q3,q4,g⟩
   exact⟨hs,.inr ⟨na,nb,out,ac,bc,rfl,p1,q1,p2,q2,by lia,g⟩⟩
  case t1=>
   rintro y c st2 - hy ⟨hs,na,nb,out,ac,bc,rfl,p1,q1,p2,q2,q3,q4,g⟩
   obtain⟨na,rfl⟩:∃n,na=n+1:=⟨na - 1,by exact(Nat.sub_add_cancel ‹_›).symm⟩
   obtain⟨nb,rfl⟩:∃n,nb=n+1:=⟨nb - 1,by lia⟩
   have p1':na < a.size:=by assumption
   have p2':nb < b.size:=by assumption
   refine wpS_bind (g_ p2' ?_)
   refine wpS_bind (g_ p1' ?_)
   refine wpS_bind (Et C (hs.kind.trans hk) (dB _ p2') (dA _ p1') ?_)
   simp only[Nat.add_sub_cancel]
   cases e:O.blt (key (at' b nb)) (key (at' a na))with
   |true=>
    refine wpS_bind (g_ p1' ?_)
    have g':=g.pushA p1' (fun y hy=>(AF pb p2' hy).trans (Le.of e))
    by_cases z:(na == 0)=true
    ·exact bj z (wpS_pure ⟨hs,.inl ⟨_,_,rfl,g'.doneA (by simpa using z)⟩⟩)
    ·refine bg z ?_
     have z':1≤na:=by simp at z;exact Nat.pos_of_ne_zero ‹_›
     split
     ·exact wpS_pure ⟨hs,.inr ⟨na,nb+1,_,_,_,rfl,by exact lq ‹_›,z',p2,q2,by lia,g'⟩⟩
     ·exact wpS_pure ⟨hs,na,nb+1,_,_,_,rfl,by exact lq ‹_›,z',p2,q2,by lia,.inr (by lia),g'⟩
   |false=>
    refine wpS_bind (g_ p2' ?_)
    have g':=g.pushB p2' (fun y hy=>(AF pa p1' hy).trans e)
    by_cases z:(nb == 1)=true
    ·exact bj z (wpS_pure ⟨hs,.inl ⟨_,_,rfl,g'.firstB (by simpa using z) h1⟩⟩)
    ·refine bg z ?_
     have z':2≤nb:=by simp at z;lia
     split
     ·exact wpS_pure ⟨hs,.inr ⟨na+1,nb,_,_,_,rfl,p1,q1,by exact lq ‹_›,z',by lia,g'⟩⟩
     ·exact wpS_pure ⟨hs,na+1,nb,_,_,_,rfl,p1,q1,by exact lq ‹_›,z',by lia,.inr (by lia),g'⟩
  case t3=>
   rintro c st2 ⟨hs,⟨r,o,rfl,hg⟩ |⟨na,nb,out,ac,bc,rfl,p1,q1,p2,q2,q3,g⟩⟩
   ·exact wpS_pure ⟨hs,r,_,rfl,hg⟩
   ·refine wpS_bind (wpS_lift (wpAny_rule ⟨rfl,?_⟩))
    refine wpS_bind (wpS_mono (wpS_forRange (I:=fun y c st'=>SS st st'∧∃na nb out mg ac bc,c=(none,na,nb,out,mg,ac,bc)∧na≤a.size∧1≤na∧nb≤b.size∧2≤nb∧na+nb+(x+1) < a.size+b.size∧H (Le O key) T (a.toList.take na) (b.toList.take nb) out.toList.reverse)
     (Q:=fun c st'=>SS st st'∧((∃r o,c=(some r,o)∧iJ (Le O key) T r.toList)∨∃na nb out mg ac bc,c=(none,na,nb,out,mg,ac,bc)∧na≤a.size∧1≤na∧nb≤b.size∧2≤nb∧na+nb+(x+1) < a.size+b.size∧H (Le O key) T (a.toList.take na) (b.toList.take nb) out.toList.reverse)) ?u1 ?u2 ⟨hs,na,nb,out,_,ac,bc,rfl,p1,q1,p2,q2,q3,g⟩) ?u3)
    case u2=>
     rintro c st' ⟨hs,na,nb,out,mg,ac,bc,rfl,p1,q1,p2,q2,q3,g⟩
     exact⟨hs,.inr ⟨na,nb,out,mg,ac,bc,rfl,p1,q1,p2,q2,by assumption,g⟩⟩
    case u3=>
     rintro c st3 ⟨hs,⟨r,o,rfl,hg⟩ |⟨na,nb,out,mg,ac,bc,rfl,p1,q1,p2,q2,q3,g⟩⟩
     ·exact wpS_pure ⟨hs,r,_,rfl,hg⟩
     ·exact wpS_bind (uD hs fun st4 h4=>wpS_pure ⟨h4,na,nb,out,_,rfl,p1,q1,p2,q2,q3,g⟩)
    case u1=>
     rintro y c st3 - hy ⟨hs,na,nb,out,mg,ac,bc,rfl,p1,q1,p2,q2,q3,g⟩
     refine JO fun R hR=>?_
     have Rd:∀r o st',SS st st'→iJ (Le O key) T r.toList→R (.done (some r,o)) st':=fun r o st' a1 a2=>by rw[hR];exact⟨a1,.inl ⟨r,o,rfl,a2⟩⟩
     have Rn:∀na nb out mg ac bc st',SS st st'→na≤a.size→1≤na→nb≤b.size→2≤nb→na+nb+(x+1) < a.size+b.size→H (Le O key) T (a.toList.take na) (b.toList.take nb) out.toList.reverse→R (.done (none,na,nb,out,mg,ac,bc)) st':=
      fun na nb out mg ac bc st' a1 a2 a3 a4 a5 a6 a7=>by rw[hR];exact⟨a1,.inr ⟨_,_,_,_,_,_,rfl,a2,a3,a4,a5,a6,a7⟩⟩
     have Ry:∀na nb out mg ac bc st',SS st st'→na≤a.size→1≤na→nb≤b.size→2≤nb→na+nb+(x+1) < a.size+b.size→H (Le O key) T (a.toList.take na) (b.toList.take nb) out.toList.reverse→R (.yield (none,na,nb,out,mg,ac,bc)) st':=
      fun na nb out mg ac bc st' a1 a2 a3 a4 a5 a6 a7=>by rw[hR];exact⟨a1,_,_,_,_,_,_,rfl,a2,a3,a4,a5,a6,a7⟩
     clear hR
     obtain⟨nb,rfl⟩:∃n,nb=n+1:=⟨nb - 1,by lia⟩
     have p2':nb < b.size:=by assumption
     have q2':1≤nb:=by exact Nat.le_of_lt_succ ‹_›
     extract_lets
     rename Unit→Nat→_=>jp
     refine LK (jp ()) fun mg'=>?_
     refine wpS_bind (uD hs fun st4 h4=>?_)
     refine wpS_bind (g_ p2' ?_)
     refine wpS_bind (i5 C (k:=at' b nb) (base:=0) (n:=na) (hint:=na - 1) (h4.kind.trans hk) (by exact Nat.sub_lt ‹_› Nat.one_pos) (by lia) (dB _ p2') dA ?m1 fun k hk1 hk2 hk3=>?_)
     case m1=>
      intro i j hij hj e
      simp only[iA,Bool.not_eq_true',iy]at e ⊢
      exact(sj pa (by exact lq ‹_›) (by exact ma ‹_› ‹_›):Le O key (at' a i) (at' a j)).trans e
     simp only[iA,Bool.not_eq_true',Bool.not_eq_false',iy]at hk2 hk3
     dsimp -zeta only
     extract_lets
     rename Unit→Nat→Array Keyed→_=>jp1
     have J1:∀(na:Nat) (out:Array Keyed),na≤a.size→1≤na→na+(nb+1)+(x+1) < a.size+b.size→H (Le O key) T (a.toList.take na) (b.toList.take (nb+1)) out.toList.reverse→(∀y∈a.toList.take na,Le O key y (at' b nb))→wpS (model prog w) A E s (jp1 () na out) R st4:=by
      intro na out p1 q1 q3 g hl
      obtain⟨na,rfl⟩:∃n,na=n+1:=⟨na - 1,by exact(Nat.sub_add_cancel ‹_›).symm⟩
      have p1':na < a.size:=by assumption
      refine wpS_bind (g_ p2' ?_)
      have g':=g.pushB p2' hl
      by_cases z:(nb == 1)=true
      ·exact bj z (wpS_pure (Rd _ _ _ h4 (g'.firstB (by simpa using z) h1)))
      refine bg z ?_
      have z':2≤nb:=by simp at z;lia
      refine wpS_bind (g_ p1' ?_)
      refine wpS_bind (i5 C (k:=at' a na) (base:=0) (n:=nb) (hint:=nb - 1) (h4.kind.trans hk) (by exact Nat.sub_lt ‹_› Nat.one_pos) (by lia) (dA _ p1') dB ?m2 fun k' hk1' hk2' hk3'=>?_)
      case m2=>
       intro i j hij hj e
       simp only[iA,iy]at e ⊢
       exact KeyOrd.klt_of_kle_of_klt (O:=O) (sj pb (by exact lq ‹_›) (by lia):Le O key (at' b i) (at' b j)) e
      simp only[iA,iy]at hk2' hk3'
      dsimp -zeta only
      extract_lets
      rename Unit→Nat→Array Keyed→_=>jp2
      have J2:∀(nb':Nat) (out:Array Keyed),nb'≤b.size→2≤nb'→na+1+nb'+(x+1) < a.size+b.size→H (Le O key) T (a.toList.take (na+1)) (b.toList.take nb') out.toList.reverse→(∀y∈b.toList.take nb',Le O key y (at' a na))→wpS (model prog w) A E s (jp2 () nb' out) R st4:=by
       intro nb' out r1 r2 r3 g hl
       refine wpS_bind (g_ p1' ?_)
       have g':=g.pushA p1' hl
       by_cases z:(na == 0)=true
       ·exact bj z (wpS_pure (Rd _ _ _ h4 (g'.doneA (by simpa using z))))
       refine bg z ?_
       have z':1≤na:=by simp at z;exact Nat.pos_of_ne_zero ‹_›
       refine iK (fun _=>?_) (fun _=>?_)
       ·exact wpS_pure (Rn _ _ _ _ _ _ _ h4 (by exact lq ‹_›) z' r1 r2 (by lia) g')
       ·exact wpS_pure (Ry _ _ _ _ _ _ _ h4 (by exact lq ‹_›) z' r1 r2 (by lia) g')
      clear_value jp2
      have tl:∀y∈b.toList.take k',Le O key y (at' a na):=fun y hy=>by
       obtain⟨j,r1,r2,rfl⟩:=uE hy
       exact Le.of (hk2' j r1)
      by_cases z2:nb - k' > 0
      ·refine bj z2 ?_
       have g2:=g'.blkB hk1' fun j j1 j2 j3 y hy=>(AF pa p1' hy).trans (hk3' j j1 j2)
       by_cases z3:(k' == 1)=true
       ·exact bj z3 (wpS_pure (Rd _ _ _ h4 (g2.firstB (by simpa using z3) h1)))
       refine bg z3 ?_
       by_cases z4:(k' == 0)=true
       ·exact bj z4 (wpS_pure (Rd _ _ _ h4 (g2.doneB (by simpa using z4))))
       ·exact bg z4 (J2 k' _ (by lia) (by simp at z3 z4;lia) (by lia) g2 tl)
      ·have k0:k'=nb:=by exact Nat.le_antisymm ‹_› (Nat.sub_eq_zero_iff_le.mp (Nat.eq_zero_of_not_pos ‹_›))
       subst k0
       exact bg z2 (J2 k' _ (by exact lq ‹_›) z' (by lia) g' tl)
     clear_value jp1
     have tl:∀y∈a.toList.take k,Le O key y (at' b nb):=fun y hy=>by
      obtain⟨j,r1,r2,rfl⟩:=uE hy
      exact hk2 j r1
     by_cases z2:na - k > 0
     ·refine bj z2 ?_
      have g2:=g.blkA hk1 fun j j1 j2 j3 y hy=>(AF pb p2' hy).trans (Le.of (hk3 j j1 j2))
      by_cases z3:(k == 0)=true
      ·exact bj z3 (wpS_pure (Rd _ _ _ h4 (g2.doneA (by simpa using z3))))
      ·exact bg z3 (J1 k _ (by exact jP ‹_› ‹_›) (by simp at z3;exact Nat.pos_of_ne_zero ‹_›) (by lia) g2 tl)
     ·have k0:k=na:=by exact Nat.le_antisymm ‹_› (Nat.sub_eq_zero_iff_le.mp (Nat.eq_zero_of_not_pos ‹_›))
      subst k0
      exact bg z2 (J1 k _ p1 q1 q3 g tl)
end
end NhLS
namespace NhLS
set_option autoImplicit false
open PySem PyProof.Rows
def So(O:KeyOrd)(key:Keyed→O.α)(a:Array Keyed)(lo hi:Nat):Prop:=∀i j,lo≤i→i < j→j < hi→Le O key (at' a i) (at' a j)
section
variable {O:KeyOrd} {key:Keyed→O.α} {a b:Array Keyed} {i j lo hi p:Nat} {x y z:Keyed}
theorem So.le(h:So O key a lo hi)(h1:lo≤i)(h2:i≤j)(h3:j < hi):Le O key (at' a i) (at' a j):=by
 by_cases e:i=j
 ·rw[e];exact Le.refl _
 ·exact h i j h1 (by exact zzB ‹_› ‹_›) h3
theorem So.ext(h:So O key a lo hi)(q:∀j,lo≤j→j < hi→at' b j=at' a j):So O key b lo hi:=fun i j h1 h2 h3=>by
 rw[q i (by assumption) (by lia),q j (by lia) h3]
 exact h i j h1 h2 h3
theorem wF(h1:i+j < hi)(h2:hi≤a.size):at' (a.extract i hi) j=at' a (i+j):=by
 simp[at',Array.getD,show j < min hi a.size - i by lia,show i+j < a.size by exact ma ‹_› ‹_›]
theorem HX(h1:lo≤hi)(h2:hi≤a.size):(a.extract lo hi).size=hi - lo:=by
 rw[Array.size_extract]
 lia
theorem HY(h:So O key a lo hi)(h2:hi≤a.size):(a.extract lo hi).toList.Pairwise (Le O key):=by
 rw[List.pairwise_iff_getElem]
 intro i j hi' hj hij
 rw[xI,Array.size_extract]at hi' hj
 rw[i7,i7,wF (by lia) h2,wF (by lia) h2]
 exact h _ _ (by exact qN _ _) (by exact zzA ‹_› _) (by lia)
theorem JP(h:i < a.size)(j:Nat):at' (a.setIfInBounds i x) j=if i=j then x else at' a j:=by
 unfold at'
 rw[Array.getD_eq_getD_getElem?,Array.getD_eq_getD_getElem?,Array.getElem?_setIfInBounds]
 by_cases e:i=j
 ·subst e;simp[h]
 ·simp[e]
def wr(a:Array Keyed)(p:Nat)(M:List (Keyed×Nat)):Array Keyed:=M.foldl (fun a q=>a.setIfInBounds (p+q.2) q.1) a
theorem AH(p:Nat):∀(M:List (Keyed×Nat)) (a:Array Keyed),(wr a p M).size=a.size
 |[],a=>rfl
 |q::M,a=>(AH p M _).trans (Array.size_setIfInBounds ..)
theorem Ev(p:Nat):∀(M:List Keyed) (n:Nat) (a:Array Keyed),p+n+M.length≤a.size→∀j,at' (wr a p (M.zipIdx n)) j=if p+n≤j∧j < p+n+M.length then M.getD (j - (p+n)) G1 else at' a j
 |[],n,a,h,j=>by
  rw[if_neg (by simp)]
  rfl
 |x::M,n,a,h,j=>by
  rw[List.length_cons]at h
  show at' (wr (a.setIfInBounds (p+n) x) p (M.zipIdx (n+1))) j=_
  rw[Ev p M (n+1) _ (by rw[Array.size_setIfInBounds];lia),JP (by lia),List.length_cons]
  by_cases e:p+n=j
  ·subst e
   rw[if_neg (by lia),if_pos rfl,if_pos (by lia),Nat.sub_self]
   rfl
  ·by_cases q:p+(n+1)≤j∧j < p+(n+1)+M.length
   ·rw[if_pos q,if_pos (by lia),show j - (p+n)=(j - (p+(n+1)))+1 by lia]
    rfl
   ·rw[if_neg q,if_neg e,if_neg (by lia)]
theorem G2(M:List Keyed)(a:Array Keyed)(h:p+M.length≤a.size):(wr a p M.zipIdx).toList=a.toList.take p++M++a.toList.drop (p+M.length):=by
 have hs:=AH p M.zipIdx a
 refine List.ext_getElem (by simp[hs];lia) fun i h1 h2=>?_
 rw[i7,show M.zipIdx=M.zipIdx 0 from rfl,Ev p M 0 a (by assumption)]
 have h1':i < a.size:=by simpa[hs]using h1
 by_cases c1:i < p
 ·rw[if_neg (by lia),List.getElem_append_left (by simp;lia),List.getElem_append_left (by simp;lia),List.getElem_take,i7]
 ·by_cases c2:i < p+M.length
  ·rw[if_pos (by lia),List.getElem_append_left (by simp;lia),List.getElem_append_right (by simp;lia)]
   have e:i - (a.toList.take p).length=i - (p+0):=by simp;lia
   simp only[e]
   simp[show i - p < M.length by lia]
  ·rw[if_neg (by exact fun h=>‹¬_› h.2),List.getElem_append_right (by simp;lia),List.getElem_drop,i7]
   congr 1
   simp
   lia
end
section
variable {prog:Program} {w:World} {A:Around} {E:Value→Shared→Prop} {s:Shared} {κ:SortKind} {O:KeyOrd} {key:Keyed→O.α} {dom:Keyed→Prop}
theorem G3{st st':SortSt}{Q:PUnit→SortSt→Prop}(h:Q ⟨⟩ st'):wpS (model prog w) A E s (set st':StateT SortSt Sem PUnit) Q st:=by
 unfold wpS;rw[StateT.run_set];exact zz1 ⟨rfl,h⟩
theorem Cf(C:Cmp prog w A s κ O key dom){a:Array Keyed}{pd:Array (Nat×Nat×Nat)}{g i sa na pw nb pw':Nat}{Q:Bool→SortSt→Prop}(da:∀i,i < a.size→dom (at' a i))(hp1:pd[i]? =some (sa,na,pw))(hp2:pd[i+1]? =some (sa+na,nb,pw'))
  (h1:1≤na) (h2:1≤nb) (hz:sa+na+nb≤a.size) (s1:So O key a sa (sa+na)) (s2:So O key a (sa+na) (sa+na+nb))
  (h:∀b g',b.toList.Perm a.toList→(∀j,j < sa∨sa+na+nb≤j→at' b j=at' a j)→So O key b sa (sa+na+nb)→Q true (SortSt.mk' κ b ((pd.setIfInBounds i (sa,na+nb,pw)).eraseIdxIfInBounds (i+1)) g' none)):
  wpS (model prog w) A E s (mergeAt' i) Q (SortSt.mk' κ a pd g none):=by
 refine wpS_bind (wpS_get ?_)
 simp only[hp1,hp2]
 refine wpS_bind (G3 ?_)
 have b1:sa+na < a.size:=by lia
 refine wpS_bind (g_ b1 ?_)
 refine wpS_bind (i5 C (k:=at' a (sa+na)) (arr:=a) (base:=sa) (n:=na) (hint:=0) rfl (by assumption) (by exact lq ‹_›) (da _ b1) da ?m1 fun k hk1 hk2 hk3=>?_)
 case m1=>
  intro i j hij hj e
  simp only[iA,Bool.not_eq_true',iy]at e ⊢
  exact(s1.le (by exact qN _ _) (by lia) (by exact zzA ‹_› _):Le O key (at' a (sa+i)) (at' a (sa+j))).trans e
 simp only[iA,Bool.not_eq_true',Bool.not_eq_false',iy]at hk2 hk3
 have lo:∀i,sa≤i→i < sa+k→∀j,sa+na≤j→j < sa+na+nb→Le O key (at' a i) (at' a j):=fun i r1 r2 j r3 r4=>by
  have:=hk2 (i - sa) (by exact Nat.sub_lt_left_of_lt_add ‹_› ‹_›)
  rw[show sa+(i - sa)=i by exact zzF ‹_›]at this
  exact Le.trans this (s2.le (by(solve_by_elim (maxDepth:=3) only[*,jP,ma,zz8,lq,zzE,zzA,qN,Nat.lt_of_succ_lt])) r3 r4)
 by_cases z:(na - k == 0)=true
 ·refine bj z (wpS_pure (h a g (List.Perm.refl _) (fun _ _=>rfl) fun i j r1 r2 r3=>?_))
  have z':k=na:=by simp at z;lia
  by_cases c:j < sa+na
  ·exact s1 i j r1 r2 c
  ·by_cases c':i < sa+na
   ·exact lo i r1 (by lia) j (by exact Nat.le_of_not_lt ‹_›) r3
   ·exact s2 i j (by exact Nat.le_of_not_lt ‹_›) r2 r3
 refine bg z ?_
 have z':k < na:=by simp at z;lia
 have b2:sa+na - 1 < a.size:=by exact zz8 (Nat.sub_le _ _) ‹_›
 rw[show sa+k+(na - k) - 1=sa+na - 1 by lia]
 refine wpS_bind (g_ b2 ?_)
 refine wpS_bind (i5 C (k:=at' a (sa+na - 1)) (arr:=a) (base:=sa+na) (n:=nb) (hint:=nb - 1) rfl (by exact Nat.sub_lt ‹_› Nat.one_pos) (by assumption) (da _ b2) da ?m2 fun m hm1 hm2 hm3=>?_)
 case m2=>
  intro i j hij hj e
  simp only[iA,if_true]at e ⊢
  exact KeyOrd.klt_of_kle_of_klt (O:=O) (s2.le (by exact qN _ _) (by lia) (by exact zzA ‹_› _):Le O key (at' a (sa+na+i)) (at' a (sa+na+j))) e
 simp only[iA,if_true]at hm2 hm3
 have up:∀j,sa+na+m≤j→j < sa+na+nb→∀i,sa≤i→i < sa+na→Le O key (at' a i) (at' a j):=fun j r3 r4 i r1 r2=>by
  have:=hm3 (j - (sa+na)) (by exact Nat.le_sub_of_add_le' ‹_›) (by lia)
  rw[show sa+na+(j - (sa+na))=j by exact zzF (jP (qN _ _) ‹_›)]at this
  exact(s1.le r1 (by lia) (by lia):Le O key (at' a i) (at' a (sa+na - 1))).trans this
 by_cases y:(m == 0)=true
 ·refine bj y (wpS_pure (h a g (List.Perm.refl _) (fun _ _=>rfl) fun i j r1 r2 r3=>?_))
  have y':m=0:=by simpa using y
  by_cases c:j < sa+na
  ·exact s1 i j r1 r2 c
  ·by_cases c':i < sa+na
   ·exact up j (by lia) r3 i r1 c'
   ·exact s2 i j (by exact Nat.le_of_not_lt ‹_›) r2 r3
 refine bg y ?_
 have y':0 < m:=by simp at y;exact Nat.pos_of_ne_zero ‹_›
 have zx:(a.extract (sa+k) (sa+na)).size=na - k:=by rw[HX (by exact zzE ‹_› _) (by exact lq ‹_›)];lia
 have zy:(a.extract (sa+na) (sa+na+m)).size=m:=by rw[HX (by exact qN _ _) (by lia)];lia
 have mx:∀x∈(a.extract (sa+k) (sa+na)).toList,∃t,sa+k≤t∧t < sa+na∧x=at' a t:=fun x hx=>by
  obtain⟨t,t1,t2,t3,t4⟩:=uG hx
  exact⟨t,t1,t2,t4⟩
 have my:∀x∈(a.extract (sa+na) (sa+na+m)).toList,∃t,sa+na≤t∧t < sa+na+m∧x=at' a t:=fun x hx=>by
  obtain⟨t,t1,t2,t3,t4⟩:=uG hx
  exact⟨t,t1,t2,t4⟩
 have dx:∀x∈(a.extract (sa+k) (sa+na)).toList,dom x:=fun x hx=>by obtain⟨t,t1,t2,rfl⟩:=mx x hx;exact da _ (by lia)
 have dy:∀x∈(a.extract (sa+na) (sa+na+m)).toList,dom x:=fun x hx=>by obtain⟨t,t1,t2,rfl⟩:=my x hx;exact da _ (by lia)
 have px:=HY (hi:=sa+na) (lo:=sa+k) (a:=a) (fun i j r1 r2 r3=>s1 i j (by exact jP (qN _ _) ‹_›) r2 r3) (by exact lq ‹_›)
 have py:=HY (hi:=sa+na+m) (lo:=sa+na) (a:=a) (fun i j r1 r2 r3=>s2 i j (by assumption) r2 (by lia)) (by lia)
 have fx:at' (a.extract (sa+k) (sa+na)) 0=at' a (sa+k):=wF (by exact zzA ‹_› _) (by exact lq ‹_›)
 have lx:at' (a.extract (sa+k) (sa+na)) ((a.extract (sa+k) (sa+na)).size - 1)=at' a (sa+na - 1):=by
  rw[zx,wF (by lia) (by exact lq ‹_›)]
  congr 1
  lia
 have fy:at' (a.extract (sa+na) (sa+na+m)) 0=at' a (sa+na):=wF (by exact zzA ‹_› _) (by lia)
 have h0:O.blt (key (at' a (sa+na))) (key (at' a (sa+k)))=true:=hk3 k (by exact fz _) z'
 have yl:∀y∈(a.extract (sa+na) (sa+na+m)).toList,Le O key y (at' a (sa+na - 1)):=fun y hy=>by
  obtain⟨t,t1,t2,rfl⟩:=my y hy
  have:=hm2 (t - (sa+na)) (by exact Nat.sub_lt_left_of_lt_add ‹_› ‹_›)
  rw[show sa+na+(t - (sa+na))=t by exact zzF ‹_›]at this
  exact Le.of this
 have xf:∀y∈(a.extract (sa+k) (sa+na)).toList,Le O key (at' a (sa+na)) y:=fun y hy=>by
  obtain⟨t,t1,t2,rfl⟩:=mx y hy
  exact(Le.of h0).trans (s1.le (by exact qN _ _) t1 t2)
 have fin:∀(r:Array Keyed) (g':Nat),iJ (Le O key) ((a.extract (sa+k) (sa+na)).toList++(a.extract (sa+na) (sa+na+m)).toList) r.toList→
   Q true (SortSt.mk' κ (wr a (sa+k) r.toList.zipIdx) ((pd.setIfInBounds i (sa,na+nb,pw)).eraseIdxIfInBounds (i+1)) g' none):=by
  intro r g' ⟨gp,gs⟩
  have rl:r.toList.length=na - k+m:=by rw[gp.length_eq,pA,xI,xI,zx,zy]
  have at1:=Ev (sa+k) r.toList 0 a (by lia)
  have rm:∀x∈r.toList,∃t,sa+k≤t∧t < sa+na+m∧x=at' a t:=fun x hx=>by
   rcases Zah.mp (gp.mem_iff.mp hx)with hx |hx
   ·obtain⟨t,t1,t2,e⟩:=mx x hx
    exact⟨t,t1,by exact Nat.lt_add_right _ ‹_›,e⟩
   ·obtain⟨t,t1,t2,e⟩:=my x hx
    exact⟨t,by lia,t2,e⟩
  have rg:∀n,n < r.toList.length→r.toList.getD n G1=at' r n:=fun n hn=>by
   have hn':n < r.size:=by simpa using hn
   rw[←i7 hn]
   simp[hn']
  have rt:∀n,n < r.toList.length→∃t,sa+k≤t∧t < sa+na+m∧at' r n=at' a t:=fun n hn=>rm _ (by rw[←i7 hn];exact List.getElem_mem _)
  refine h _ g' ?_ (fun j hj=>?_) fun i j r1 r2 r3=>?_
  ·rw[G2 _ _ (by lia)]
   have ea:a.toList=a.toList.take (sa+k)++((a.extract (sa+k) (sa+na)).toList++(a.extract (sa+na) (sa+na+m)).toList)++a.toList.drop (sa+k+r.toList.length):=by
    rw[←oQ,←uF (by exact zzE ‹_› _),←uF (by exact qN _ _),rl,show sa+k+(na - k+m)=sa+na+m by lia,List.take_append_drop]
   refine List.Perm.trans ?_ (List.Perm.of_eq ea.symm)
   exact List.Perm.append_right _ (List.Perm.append_left _ gp)
  ·show at' (wr a (sa+k) (r.toList.zipIdx 0)) j=_
   rw[at1,if_neg (by lia)]
  ·show Le O key (at' (wr a (sa+k) (r.toList.zipIdx 0)) i) (at' (wr a (sa+k) (r.toList.zipIdx 0)) j)
   rw[at1,at1]
   by_cases ci:i < sa+k
   ·rw[if_neg (by lia)]
    by_cases cj:j < sa+na+m
    ·by_cases cj':j < sa+k
     ·rw[if_neg (by lia)]
      exact s1 i j r1 r2 (by lia)
     ·rw[if_pos (by lia),rg _ (by lia)]
      obtain⟨t,t1,t2,e⟩:=rt (j - (sa+k+0)) (by lia)
      rw[e]
      by_cases ct:t < sa+na
      ·exact s1 i t r1 (by exact ma ‹_› ‹_›) ct
      ·exact lo i r1 ci t (by exact Nat.le_of_not_lt ‹_›) (by lia)
    ·rw[if_neg (by lia)]
     exact lo i r1 ci j (by lia) r3
   ·by_cases ci':i < sa+na+m
    ·rw[if_pos (by lia),rg _ (by lia)]
     by_cases cj:j < sa+na+m
     ·rw[if_pos (by lia),rg _ (by lia)]
      have:=List.pairwise_iff_getElem.mp gs (i - (sa+k+0)) (j - (sa+k+0)) (by lia) (by lia) (by lia)
      rw[i7,i7]at this
      exact this
     ·rw[if_neg (by lia)]
      obtain⟨t,t1,t2,e⟩:=rt (i - (sa+k+0)) (by lia)
      rw[e]
      by_cases ct:t < sa+na
      ·exact up j (by exact Nat.le_of_not_lt ‹_›) r3 t (by exact jP (qN _ _) ‹_›) ct
      ·exact s2 t j (by exact Nat.le_of_not_lt ‹_›) (by lia) r3
    ·rw[if_neg (by lia),if_neg (by lia)]
     exact s2 i j (by lia) r2 r3
 refine iK (fun _=>?_) (fun _=>?_)
 ·refine wpS_bind (Cd C rfl dx dy (by lia) (by lia) px py (by rw[fx,fy];exact h0) (by rw[lx];exact yl) fun r st' hs hg=>?_)
  obtain⟨g',rfl⟩:=hs
  exact wpS_bind (wpS_modify (wpS_bind (wpS_get (wpS_pure (fin r g' hg)))))
 ·refine wpS_bind (Ce C rfl dx dy (by lia) (by lia) px py (by rw[lx];exact yl) (by rw[fy];exact xf) fun r st' hs hg=>?_)
  obtain⟨g',rfl⟩:=hs
  exact wpS_bind (wpS_modify (wpS_bind (wpS_get (wpS_pure (fin r g' hg)))))
end
end NhLS
namespace NhLS
set_option autoImplicit false
open PySem PyProof.Rows
structure Sx (a b:Array Keyed) (lo hi:Nat):Prop where
 perm:b.toList.Perm a.toList
 out:∀j,j < lo∨hi≤j→at' b j=at' a j
def Dn(O:KeyOrd)(key:Keyed→O.α)(a:Array Keyed)(lo hi:Nat):Prop:=∀i j,lo≤i→i < j→j < hi→Le O key (at' a j) (at' a i)
def Eqs(O:KeyOrd)(key:Keyed→O.α)(a:Array Keyed)(e q:Nat):Prop:=∀i,e - (q+1)≤i→i < e→Le O key (at' a i) (at' a (e - 1))∧Le O key (at' a (e - 1)) (at' a i)
section
variable {O:KeyOrd} {key:Keyed→O.α} {a b c:Array Keyed} {i j k lo hi n q:Nat}
theorem Sx.refl:Sx a a lo hi:=⟨List.Perm.refl _,fun _ _=>rfl⟩
theorem Sx.trans(h1:Sx a b lo hi)(h2:Sx b c lo hi):Sx a c lo hi:=⟨h2.perm.trans h1.perm,fun j hj=>(h2.out j hj).trans (h1.out j hj)⟩
theorem Sx.size(h:Sx a b lo hi):b.size=a.size:=by have:=h.perm.length_eq;simpa using this
theorem Sx.dom{dom:Keyed→Prop}(h:Sx a b lo hi)(da:∀x∈a.toList,dom x):∀x∈b.toList,dom x:=fun x hx=>da x (h.perm.mem_iff.mp hx)
theorem G4(a:Array Keyed)(i:Nat):at' a i=(a[i]?).getD G1:=Array.getD_eq_getD_getElem? ..
theorem jr(hj:j≤a.size)(k:Nat):at' (mirror a i j ((j - i) / 2)) k=if i≤k∧k < j then at' a (i+j - 1 - k)else at' a k:=by
 rw[G4,getElem?_mirror_all hj]
 split <;> rw[G4]
theorem yX(hk:k < a.size)(hd:n≤k)(i:Nat):at' (bubble a k n) i=if i=k - n then at' a k else if k - n < i∧i≤k then at' a (i - 1)else at' a i:=by
 rw[G4,getElem?_bubble hk n hd]
 repeat' split
 all_goals rw[G4]
theorem Sx.rev(h1:lo≤i)(h2:j≤hi)(h3:j≤a.size):Sx a (mirror a i j ((j - i) / 2)) lo hi:=
 ⟨Array.perm_iff_toList_perm.mp (mirror_perm _ _ _ _),fun k hk=>by rw[jr h3,if_neg (by lia)]⟩
theorem Sx.bub(h1:k < a.size)(h0:n≤k)(h2:lo≤k - n)(h3:k < hi):Sx a (bubble a k n) lo hi:=
 ⟨Array.perm_iff_toList_perm.mp (bubble_perm _ _ _),fun j hj=>by rw[yX h1 h0,if_neg (by lia),if_neg (by lia)]⟩
theorem So.step(h:So O key a lo hi)(hl:lo < hi)(e:Le O key (at' a (hi - 1)) (at' a hi)):So O key a lo (hi+1):=fun i j h1 h2 h3=>by
 by_cases c:j < hi
 ·exact h i j h1 h2 c
 ·rw[show j=hi by lia]
  exact(h.le h1 (by lia) (by lia):Le O key (at' a i) (at' a (hi - 1))).trans e
theorem Dn.le(h:Dn O key a lo hi)(h1:lo≤i)(h2:i≤j)(h3:j < hi):Le O key (at' a j) (at' a i):=by
 by_cases e:i=j
 ·rw[e];exact Le.refl _
 ·exact h i j h1 (by exact zzB ‹_› ‹_›) h3
theorem Dn.step(h:Dn O key a lo hi)(hl:lo < hi)(e:Le O key (at' a hi) (at' a (hi - 1))):Dn O key a lo (hi+1):=fun i j h1 h2 h3=>by
 by_cases c:j < hi
 ·exact h i j h1 h2 c
 ·rw[show j=hi by lia]
  exact Le.trans e (h.le h1 (by lia) (by lia))
theorem Dn.rev(h:Dn O key a lo hi)(e:Eqs O key a hi q)(hz:hi≤a.size)(hq:lo+(q+1)≤hi):Dn O key (mirror a (hi - (q+1)) hi ((hi - (hi - (q+1))) / 2)) lo hi:=fun i j h1 h2 h3=>by
 rw[jr hz,jr hz]
 by_cases c:hi - (q+1)≤i
 ·rw[if_pos (by lia),if_pos (by lia)]
  exact(e _ (by lia) (by lia)).1.trans (e _ (by lia) (by lia)).2
 ·rw[if_neg (show ¬(hi - (q+1)≤i∧i < hi) by exact fun h=>‹¬_› h.1)]
  by_cases c':hi - (q+1)≤j
  ·rw[if_pos (by exact⟨‹_›,‹_›⟩)]
   exact h _ _ h1 (by lia) (by lia)
  ·rw[if_neg (by exact fun h=>‹¬_› h.1)]
   exact h _ _ h1 h2 h3
theorem Dn.flip(h:Dn O key a lo hi)(hz:hi≤a.size):So O key (mirror a lo hi ((hi - lo) / 2)) lo hi:=fun i j h1 h2 h3=>by
 rw[jr hz,jr hz,if_pos (by lia),if_pos (by lia)]
 exact h _ _ (by lia) (by lia) (by lia)
theorem Eqs.one:Eqs O key a (hi+1) 0:=fun i h1 h2=>by
 rw[show i=hi by lia]
 exact⟨Le.refl _,Le.refl _⟩
end
section
variable {prog:Program} {w:World} {A:Around} {E:Value→Shared→Prop} {s:Shared} {κ:SortKind} {O:KeyOrd} {key:Keyed→O.α} {dom:Keyed→Prop} {a:Array Keyed} {pd:Array (Nat×Nat×Nat)} {g:Nat}
theorem nN(C:Cmp prog w A s κ O key dom){i:Nat}{Q:Option Bool→SortSt→Prop}(da:∀x∈a.toList,dom x)(hi:i < a.size)(hj:j < a.size)(h:Q (some (O.blt (key (at' a i)) (key (at' a j)))) (SortSt.mk' κ a pd g none)):wpS (model prog w) A E s (ltAt' i j) Q (SortSt.mk' κ a pd g none):=
 wpS_bind (wpS_get (wpS_bind (g_ hi (wpS_bind (g_ hj (Et C rfl (da _ (lK hi)) (da _ (lK hj)) h))))))
theorem AI{i:Nat}{Q:Unit→SortSt→Prop}(h:Q () (SortSt.mk' κ (mirror a i j ((j - i) / 2)) pd g none)):wpS (model prog w) A E s (reverseSlice' i j) Q (SortSt.mk' κ a pd g none):=wpS_modify h
theorem JQ{l:Nat}{Q:Unit→SortSt→Prop}(h:Q () (SortSt.mk' κ (bubble a k (k - l)) pd g none)):wpS (model prog w) A E s (moveDown' k l) Q (SortSt.mk' κ a pd g none):=wpS_modify h
theorem HZ{n0 nrem:Nat}{body:Nat→Option β×Nat→StateT SortSt Sem (ForInStep (Option β×Nat))}{Q:Option β×Nat→SortSt→Prop}(h1:1≤n0)(h2:n0≤nrem)(hs:So O key a lo (lo+n0))
  (hb:∀x n (R:ForInStep (Option β×Nat)→SortSt→Prop),1≤n→n < nrem→R (if O.blt (key (at' a (lo+n))) (key (at' a (lo+n - 1)))=true then .done (none,n)else .yield (none,n+1)) (SortSt.mk' κ a pd g none)→wpS (model prog w) A E s (body x (none,n)) R (SortSt.mk' κ a pd g none))
  (h:∀n,n0≤n→n≤nrem→So O key a lo (lo+n)→(n < nrem→O.blt (key (at' a (lo+n))) (key (at' a (lo+n - 1)))=true)→Q (none,n) (SortSt.mk' κ a pd g none)):
  wpS (model prog w) A E s (forIn [n0:nrem] (none,n0) body) Q (SortSt.mk' κ a pd g none):=by
 refine wpS_forRange (I:=fun x c st'=>st'=SortSt.mk' κ a pd g none∧c=(none,x)∧n0≤x∧So O key a lo (lo+x)) ?_ ?_ ⟨rfl,rfl,fz _,hs⟩
 ·rintro x c st' q1 q2 ⟨rfl,rfl,q3,q4⟩
  refine hb x x _ (by exact ma ‹_› ‹_›) q2 ?_
  cases e:O.blt (key (at' a (lo+x))) (key (at' a (lo+x - 1)))with
  |true=>exact h x q3 (by exact lq ‹_›) q4 fun _=>e
  |false=>exact⟨rfl,rfl,by(solve_by_elim (maxDepth:=3) only[*,jP,ma,zz8,lq]),q4.step (by lia) e⟩
 ·rintro c st' ⟨rfl,rfl,q3,q4⟩
  rw[show max n0 nrem=nrem by exact Nat.max_eq_right ‹_›]at q4 ⊢
  exact h nrem h2 (fz _) q4 fun z=>absurd z (Nat.lt_irrefl _)
theorem uH(C:Cmp prog w A s κ O key dom){ok:Nat}{Q:Bool→SortSt→Prop}(da:∀x∈a.toList,dom x)(h1:1≤ok)(h2:ok≤n)(hz:lo+n≤a.size)(hs:So O key a lo (lo+ok))
  (h:∀b,Sx a b lo (lo+n)→So O key b lo (lo+n)→Q true (SortSt.mk' κ b pd g none)):wpS (model prog w) A E s (binarySort' lo n ok) Q (SortSt.mk' κ a pd g none):=by
 refine wpS_bind (wpS_mono (wpS_forRange (I:=fun k c st'=>c=(none,())∧∃b,st'=SortSt.mk' κ b pd g none∧Sx a b lo (lo+n)∧So O key b lo (lo+k)) (Q:=fun c st'=>c=(none,())∧∃b,st'=SortSt.mk' κ b pd g none∧Sx a b lo (lo+n)∧So O key b lo (lo+n)) ?s1 ?s2 ⟨rfl,a,rfl,.refl,by rw[show max ok 1=ok by exact Nat.max_eq_left ‹_›];exact hs⟩) ?s3)
 case s3=>
  rintro c st' ⟨rfl,b,rfl,sb,ss⟩
  exact wpS_pure (h b sb ss)
 case s2=>
  rintro c st' ⟨rfl,b,rfl,sb,ss⟩
  rw[show max (max ok 1) n=n by lia]at ss
  exact⟨rfl,b,rfl,sb,ss⟩
 case s1=>
  rintro k c st' k1 k2 ⟨rfl,b,rfl,sb,ss⟩
  have bz:=sb.size
  have ik:lo+k < b.size:=by lia
  refine wpS_bind (wpS_mono (wpS_forRange (I:=fun x c st'=>st'=SortSt.mk' κ b pd g none∧∃l r,c=(none,l,r)∧l≤r∧r≤k∧r+x≤k+l∧(∀i,i < l→Le O key (at' b (lo+i)) (at' b (lo+k)))∧(∀i,r≤i→i < k→Le O key (at' b (lo+k)) (at' b (lo+i))))
   (Q:=fun c st'=>st'=SortSt.mk' κ b pd g none∧∃l,c=(none,l,l)∧l≤k∧(∀i,i < l→Le O key (at' b (lo+i)) (at' b (lo+k)))∧(∀i,l≤i→i < k→Le O key (at' b (lo+k)) (at' b (lo+i)))) ?t1 ?t2 ⟨rfl,0,k,rfl,by exact zz9 _,by exact fz _,by(solve_by_elim (maxDepth:=3) only[*,jP,ma,zz8,lq,zzE,zzA,qN,Nat.lt_of_succ_lt]),fun i hi=>by lia,fun i h1 h2=>by lia⟩) ?t3)
  case t2=>
   rintro c st' ⟨rfl,l,r,rfl,p1,p2,p3,p4,p5⟩
   have:l=r:=by lia
   subst this
   exact⟨rfl,l,rfl,p2,p4,p5⟩
  case t1=>
   rintro x c st' - x2 ⟨rfl,l,r,rfl,p1,p2,p3,p4,p5⟩
   dsimp only
   refine iK (fun z=>?_) (fun z=>?_)
   ·have:l=r:=by exact Nat.le_antisymm ‹_› ‹_›
    subst this
    exact wpS_pure ⟨rfl,l,rfl,p2,p4,p5⟩
   ·have im:lo+(l+r) / 2 < b.size:=by lia
    refine wpS_bind (nN C (sb.dom da) ik im ?_)
    cases e:O.blt (key (at' b (lo+k))) (key (at' b (lo+(l+r) / 2)))with
    |true=>exact wpS_pure ⟨rfl,l,(l+r) / 2,rfl,by lia,by lia,by lia,p4,fun i r1 r2=>(Le.of e).trans (ss.le (by exact qN _ _) (by exact zzE ‹_› _) (by exact zzA ‹_› _))⟩
    |false=>exact wpS_pure ⟨rfl,(l+r) / 2+1,r,rfl,by lia,by assumption,by lia,fun i r1=>(ss.le (by exact qN _ _) (by lia) (by lia):Le O key (at' b (lo+i)) (at' b (lo+(l+r) / 2))).trans e,p5⟩
  case t3=>
   rintro c st' ⟨rfl,l,rfl,p2,p4,p5⟩
   refine wpS_bind (JQ (wpS_pure ⟨rfl,_,rfl,sb.trans (Sx.bub (k:=lo+k) (n:=lo+k - (lo+l)) ik (by exact Nat.sub_le _ _) (by lia) (by exact zzA ‹_› _)),fun i j r1 r2 r3=>?_⟩))
   have q4:∀i,lo≤i→i < lo+l→Le O key (at' b i) (at' b (lo+k)):=fun i u1 u2=>by have:=p4 (i - lo) (by exact Nat.sub_lt_left_of_lt_add ‹_› ‹_›);rwa [show lo+(i - lo)=i by exact zzF ‹_›]at this
   have q5:∀i,lo+l≤i→i < lo+k→Le O key (at' b (lo+k)) (at' b i):=fun i u1 u2=>by have:=p5 (i - lo) (by exact Nat.le_sub_of_add_le' ‹_›) (by lia);rwa [show lo+(i - lo)=i by exact zzF (jP (qN _ _) ‹_›)]at this
   show Le O key (at' (bubble b (lo+k) (lo+k - (lo+l))) i) (at' (bubble b (lo+k) (lo+k - (lo+l))) j)
   rw[yX ik (by exact Nat.sub_le _ _),yX ik (by exact Nat.sub_le _ _),show lo+k - (lo+k - (lo+l))=lo+l by lia]
   repeat' split
   all_goals first
    |(exfalso;lia)
    |exact q4 _ (by assumption) (by(first |exact Nat.lt_of_lt_of_eq ‹_› ‹_› |lia))
    |exact q5 _ (by(first |exact zzE ‹_› _ |lia)) (by lia)
    |exact ss _ _ (by(first |assumption |lia)) (by(first |assumption |lia)) (by lia)
theorem yY(C:Cmp prog w A s κ O key dom){nrem:Nat}{Q:Option Nat→SortSt→Prop}(da:∀x∈a.toList,dom x)(h1:1≤nrem)(hz:lo+nrem≤a.size)
  (h:∀m b,1≤m→m≤nrem→Sx a b lo (lo+nrem)→So O key b lo (lo+m)→Q (some m) (SortSt.mk' κ b pd g none)):wpS (model prog w) A E s (countRun' lo nrem) Q (SortSt.mk' κ a pd g none):=by
 refine wpS_bind (HZ (O:=O) (key:=key) (a:=a) (lo:=lo) (n0:=1) (nrem:=nrem) (fz _) h1 (fun i j r1 r2 r3=>by lia) (fun x n R n1 n2 hR=>?_) fun n q1 q2 q3 q4=>?_)
 ·refine wpS_bind (nN C da (show lo+n < a.size by lia) (show lo+n - 1 < a.size by lia) ?_)
  cases e:O.blt (key (at' a (lo+n))) (key (at' a (lo+n - 1)))with
  |true=>rw[e]at hR;exact wpS_pure hR
  |false=>rw[e]at hR;exact wpS_pure hR
 dsimp -zeta only
 by_cases z:(n == nrem)=true
 ·exact bj z (wpS_pure (h n a q1 q2 .refl q3))
 refine bg z ?_
 have z':n < nrem:=by simp at z;exact zzB ‹_› ‹_›
 have sn:=q4 z'
 extract_lets
 rename Unit→_=>jp
 have J:∀b,Sx a b lo (lo+nrem)→Dn O key b lo (lo+n+1)→wpS (model prog w) A E s (jp ()) Q (SortSt.mk' κ b pd g none):=by
  intro b sb db
  refine wpS_bind (wpS_lift (wpAny_rule ⟨rfl,?_⟩))
  refine wpS_bind (wpS_mono (wpS_forRange (I:=fun x c st'=>∃b q,st'=SortSt.mk' κ b pd g none∧Sx a b lo (lo+nrem)∧c=(none,x,q)∧q+1≤x∧n+1≤x∧Dn O key b lo (lo+x)∧Eqs O key b (lo+x) q)
   (Q:=fun c st'=>∃b m q,st'=SortSt.mk' κ b pd g none∧Sx a b lo (lo+nrem)∧c=(none,m,q)∧q+1≤m∧m≤nrem∧Dn O key b lo (lo+m)∧Eqs O key b (lo+m) q) ?s1 ?s2 ⟨b,0,rfl,sb,rfl,by exact xJ ‹_›,by exact zzC _,db,Eqs.one⟩) ?s3)
  case s2=>
   rintro c st' ⟨b,q,rfl,sb,rfl,p1,p2,p3,p4⟩
   rw[show max (n+1) nrem=nrem by exact Nat.max_eq_right ‹_›]at *
   exact⟨b,nrem,q,rfl,sb,rfl,p1,fz _,p3,p4⟩
  case s1=>
   rintro x c st' x1 x2 ⟨b,q,rfl,sb,rfl,p1,p2,p3,p4⟩
   have bz:=sb.size
   have i1:lo+x < b.size:=by lia
   have i2:lo+x - 1 < b.size:=by exact zz8 (Nat.sub_le _ _) ‹_›
   refine wpS_bind (nN C (sb.dom da) i1 i2 ?_)
   cases e:O.blt (key (at' b (lo+x))) (key (at' b (lo+x - 1)))with
   |true=>
    dsimp only
    rw[if_pos rfl]
    refine iK (fun z=>?_) (fun z=>?_)
    ·refine wpS_bind (AI (wpS_pure ⟨_,0,rfl,sb.trans (Sx.rev (by lia) (by lia) (by exact lq ‹_›)),rfl,by exact Nat.le_add_left _ _,by exact xJ ‹_›,?_,Eqs.one⟩))
     refine(p3.rev p4 (by exact lq ‹_›) (by exact zzA ‹_› _)).step (by lia) ?_
     rw[jr (by exact lq ‹_›),jr (by exact lq ‹_›),if_neg (by lia),if_pos (by lia)]
     exact(Le.of e).trans (p4 _ (by lia) (by lia)).2
    ·exact wpS_pure ⟨b,0,rfl,sb,rfl,by exact Nat.le_add_left _ _,by exact xJ ‹_›,p3.step (by lia) (Le.of e),Eqs.one⟩
   |false=>
    dsimp only
    rw[if_neg (by simp)]
    refine wpS_bind (nN C (sb.dom da) i2 i1 ?_)
    cases e':O.blt (key (at' b (lo+x - 1))) (key (at' b (lo+x)))with
    |true=>exact wpS_pure ⟨b,x,q,rfl,sb,rfl,p1,by exact lq ‹_›,p3,p4⟩
    |false=>
     refine wpS_pure ⟨b,q+1,rfl,sb,rfl,by exact Nat.succ_lt_succ ‹_›,by exact xJ ‹_›,p3.step (by lia) e',fun i r1 r2=>?_⟩
     show Le O key (at' b i) (at' b (lo+x))∧Le O key (at' b (lo+x)) (at' b i)
     by_cases c:i=lo+x
     ·rw[c];exact⟨Le.refl _,Le.refl _⟩
     ·obtain⟨u1,u2⟩:=p4 i (by lia) (by lia)
      exact⟨u1.trans e,Le.trans e' u2⟩
  case s3=>
   rintro c st' ⟨b,m,q,rfl,sb,rfl,p1,p2,p3,p4⟩
   have bz:=sb.size
   dsimp -zeta only
   extract_lets
   rename Unit→_=>jp2
   have J2:∀b,Sx a b lo (lo+nrem)→Dn O key b lo (lo+m)→wpS (model prog w) A E s (jp2 ()) Q (SortSt.mk' κ b pd g none):=by
    intro b sb db
    have bz:=sb.size
    refine wpS_bind (AI ?_)
    have sc:=sb.trans (Sx.rev (a:=b) (i:=lo) (j:=lo+m) (fz lo) (show lo+m≤lo+nrem by exact zzE ‹_› _) (by lia))
    have cz:=sc.size
    have ss:=db.flip (by lia)
    revert sc cz ss
    generalize mirror b lo (lo+m) ((lo+m - lo) / 2)=c
    intro sc cz ss
    refine wpS_bind (HZ (O:=O) (key:=key) (a:=c) (lo:=lo) (n0:=m) (nrem:=nrem) (by exact jP (Nat.le_add_left _ _) ‹_›) p2 ss (fun x n R n1 n2 hR=>?_) fun n q1 q2 q3 q4=>?_)
    ·refine wpS_bind (nN C (sc.dom da) (show lo+n < c.size by lia) (show lo+n - 1 < c.size by lia) ?_)
     cases e:O.blt (key (at' c (lo+n))) (key (at' c (lo+n - 1)))with
     |true=>rw[e]at hR;exact wpS_pure hR
     |false=>rw[e]at hR;exact wpS_pure hR
    ·exact wpS_pure (h n c (by lia) q2 sc q3)
   clear_value jp2
   refine iK (fun z=>?_) (fun z=>?_)
   ·exact wpS_bind (AI (J2 _ (sb.trans (Sx.rev (a:=b) (i:=lo+m - (q+1)) (j:=lo+m) (by lia) (by exact zzE ‹_› _) (by lia))) (Dn.rev (hi:=lo+m) (q:=q) p3 p4 (by lia) (by exact zzA ‹_› _))))
   ·exact J2 b sb p3
 clear_value jp
 refine iK (fun c=>?_) (fun c=>?_)
 ·refine wpS_bind (nN C da (show lo < a.size by lia) (show lo+n - 1 < a.size by lia) ?_)
  cases e:O.blt (key (at' a lo)) (key (at' a (lo+n - 1)))with
  |true=>exact wpS_pure (h n a q1 q2 .refl q3)
  |false=>
   refine wpS_bind (AI (J _ (Sx.rev (fz _) (by exact zzE ‹_› _) (by lia)) fun i j r1 r2 r3=>?_))
   have all:∀x y,lo≤x→x < lo+n→lo≤y→y < lo+n→Le O key (at' a x) (at' a y):=fun x y x1 x2 y1 y2=>
    ((q3.le x1 (by lia) (by lia):Le O key (at' a x) (at' a (lo+n - 1))).trans e).trans (q3.le (fz _) y1 y2)
   rw[jr (by lia),jr (by lia),if_pos (show lo≤i∧i < lo+n by lia)]
   by_cases c':j < lo+n
   ·rw[if_pos (by lia)]
    exact all _ _ (by lia) (by lia) (by lia) (by lia)
   ·rw[if_neg (by exact fun h=>‹¬_› h.2),show j=lo+n by lia]
    exact(Le.of sn).trans (all _ _ (by lia) (by lia) (by lia) (by lia))
 ·refine J a .refl fun i j r1 r2 r3=>?_
  rw[show i=lo+n - 1 by lia,show j=lo+n by lia]
  exact Le.of sn
end
end NhLS
namespace NhLS
set_option autoImplicit false
open PySem PyProof.Rows
def Ch(O:KeyOrd)(key:Keyed→O.α)(a:Array Keyed):List (Nat×Nat×Nat)→Nat→Nat→Prop
 |[],p,e=>p=e
 |t::l,p,e=>t.1=p∧1≤t.2.1∧So O key a p (p+t.2.1)∧Ch O key a l (p+t.2.1) e
section
variable {O:KeyOrd} {key:Keyed→O.α} {a b:Array Keyed}
theorem Ch.app:∀{l l':List (Nat×Nat×Nat)} {p e:Nat},Ch O key a (l++l') p e→∃m,Ch O key a l p m∧Ch O key a l' m e
 |[],_,p,e,h=>⟨p,rfl,h⟩
 |t::l,_,p,e,h=>by
  obtain⟨m,h1,h2⟩:=Ch.app h.2.2.2
  exact⟨m,⟨h.1,h.2.1,h.2.2.1,h1⟩,h2⟩
theorem Ch.join:∀{l l':List (Nat×Nat×Nat)} {p m e:Nat},Ch O key a l p m→Ch O key a l' m e→Ch O key a (l++l') p e
 |[],_,p,m,e,h1,h2=>by rw[show p=m from h1];exact h2
 |t::l,_,p,m,e,h1,h2=>⟨h1.1,h1.2.1,h1.2.2.1,Ch.join h1.2.2.2 h2⟩
theorem Ch.le:∀{l:List (Nat×Nat×Nat)} {p e:Nat},Ch O key a l p e→p+l.length≤e
 |[],p,e,h=>by rw[show p=e from h];exact fz _
 |t::l,p,e,h=>by
  have:=Ch.le h.2.2.2
  have:=h.2.1
  rw[List.length_cons]
  lia
theorem Ch.ext:∀{l:List (Nat×Nat×Nat)} {p e:Nat},Ch O key a l p e→(∀j,p≤j→j < e→at' b j=at' a j)→Ch O key b l p e
 |[],p,e,h,_=>h
 |t::l,p,e,h,q=>by
  have:=Ch.le h.2.2.2
  exact⟨h.1,h.2.1,h.2.2.1.ext fun j h1 h2=>q j h1 (by lia),Ch.ext h.2.2.2 fun j h1 h2=>q j (by exact jP (qN _ _) ‹_›) h2⟩
theorem Ch.map:∀{l l':List (Nat×Nat×Nat)} {p e:Nat},Ch O key a l p e→l'.map (fun t=>(t.1,t.2.1))=l.map (fun t=>(t.1,t.2.1))→Ch O key a l' p e
 |[],l',p,e,h,q=>by
  cases l' with
  |nil=>exact h
  |cons _ _=>simp at q
 |t::l,l',p,e,h,q=>by
  cases l' with
  |nil=>simp at q
  |cons t' l'=>
   simp only[gR,List.cons.injEq,Prod.mk.injEq]at q
   refine⟨q.1.1.trans h.1,by rw[q.1.2];exact h.2.1,by rw[q.1.2];exact h.2.2.1,?_⟩
   rw[q.1.2]
   exact Ch.map h.2.2.2 q.2
theorem G5(f:Nat×Nat×Nat→Nat×Nat×Nat)(hf:∀t,(f t).1=t.1∧(f t).2.1=t.2.1)(l:List (Nat×Nat×Nat))(k:Nat):(l.modify k f).map (fun t=>(t.1,t.2.1))=l.map (fun t=>(t.1,t.2.1)):=by
 refine List.ext_getElem? fun j=>?_
 rw[zP,zP,List.getElem?_modify]
 cases l[j]? with
 |none=>rfl
 |some t=>
  by_cases e:k=j
  ·simp[e,hf t]
  ·simp[e]
theorem Ch.one{p w:Nat}(h:So O key a p (p+n))(h1:1≤n):Ch O key a [(p,n,w)] p (p+n):=⟨rfl,h1,h,rfl⟩
end
section
variable {prog:Program} {w:World} {A:Around} {E:Value→Shared→Prop} {s:Shared} {κ:SortKind} {O:KeyOrd} {key:Keyed→O.α} {dom:Keyed→Prop} {a:Array Keyed} {pd:Array (Nat×Nat×Nat)} {g:Nat}
theorem sk(C:Cmp prog w A s κ O key dom){i:Nat}{Q:Bool→SortSt→Prop}(da:∀x∈a.toList,dom x)(hi:i+1 < pd.size)(hz:lo≤a.size)(hc:Ch O key a pd.toList 0 lo)
  (h:∀b pd' g',b.toList.Perm a.toList→(∀j,lo≤j→at' b j=at' a j)→Ch O key b pd'.toList 0 lo→pd'.size+1=pd.size→Q true (SortSt.mk' κ b pd' g' none)):wpS (model prog w) A E s (mergeAt' i) Q (SortSt.mk' κ a pd g none):=by
 have el:pd.toList=pd.toList.take i++(pd[i]::pd[i+1]::pd.toList.drop (i+2)):=by
  conv=>lhs;rw[←List.take_append_drop i pd.toList]
  congr 1
  rw[FK (by simp;exact Nat.lt_of_succ_lt ‹_›),FK (by simp;assumption)]
  simp
 have e1:pd[i]? =some pd[i]:=getElem?_pos ..
 have e2:pd[i+1]? =some pd[i+1]:=getElem?_pos ..
 revert el e1 e2
 generalize pd[i]=t1
 generalize pd[i+1]=t2
 intro el e1 e2
 obtain⟨sa,na,w1⟩:=t1
 obtain⟨sb,nb,w2⟩:=t2
 have li:(pd.toList.take i).length=i:=by simp;lia
 revert el li
 generalize pd.toList.take i=pre
 generalize pd.toList.drop (i+2)=post
 intro el li
 rw[el]at hc
 obtain⟨m,c1,c2⟩:=hc.app
 obtain⟨u1,u2,u3,v1,v2,v3,c3⟩:=c2
 simp only at u1 u2 u3 v1 v2 v3 c3
 subst u1
 subst v1
 have le3:=c3.le
 refine Cf C (fun i hi=>da _ (lK hi)) e1 e2 u2 v2 (by lia) u3 v3 fun b g' pb ob sb=>h b _ g' pb (fun j hj=>ob j (.inr (by lia))) ?_ ?_
 ·have:((pd.setIfInBounds i (sa,na+nb,w1)).eraseIdxIfInBounds (i+1)).toList=pre++((sa,na+nb,w1)::post):=by
   have hs:i+1 < (pd.setIfInBounds i (sa,na+nb,w1)).size:=by simpa using hi
   rw[Array.eraseIdxIfInBounds,dif_pos hs,Array.toList_eraseIdx,Array.toList_setIfInBounds,el]
   subst li
   simp[List.eraseIdx_append_of_length_le]
  rw[this]
  refine(c1.ext fun j _ hj=>ob j (.inl hj)).join ⟨rfl,by show 1≤na+nb;exact Nat.lt_add_right _ ‹_›,by rw[←Nat.add_assoc];exact sb,?_⟩
  show Ch O key b post (sa+(na+nb)) lo
  rw[←Nat.add_assoc]
  exact c3.ext fun j hj _=>ob j (.inr hj)
 ·have hs:i+1 < (pd.setIfInBounds i (sa,na+nb,w1)).size:=by simpa using hi
  rw[Array.eraseIdxIfInBounds,dif_pos hs,Array.size_eraseIdx]
  simp
  lia
theorem Ew{c:Prop}[Decidable c]{x y:Nat}{Q:Bool→SortSt→Prop}{st:SortSt}(h:∀i,i=x∨i=y→wpS (model prog w) A E s (mergeAt' i) Q st):wpS (model prog w) A E s (mergeAt' (if c then x else y)) Q st:=by
 split
 ·exact h _ (.inl rfl)
 ·exact h _ (.inr rfl)
theorem yZ(C:Cmp prog w A s κ O key dom){Q:Unit→SortSt→Prop}(da:∀x∈a.toList,dom x)(h:∀b pd' g',b.toList.Perm a.toList→So O key b 0 a.size→Q () (SortSt.mk' κ b pd' g' none)):wpS (model prog w) A E s sortRuns' Q (SortSt.mk' κ a #[] g none):=by
 refine wpS_bind (wpS_get ?_)
 refine wpS_bind (wpS_mono (wpS_forRange (I:=fun x c st'=>∃b lo pd g,st'=SortSt.mk' κ b pd g none∧b.toList.Perm a.toList∧c=(none,lo)∧lo≤a.size∧(x≤lo∨lo=a.size)∧Ch O key b pd.toList 0 lo)
  (Q:=fun c st'=>∃b pd g,st'=SortSt.mk' κ b pd g none∧b.toList.Perm a.toList∧c=(none,a.size)∧Ch O key b pd.toList 0 a.size) ?s1 ?s2 ⟨a,0,#[],g,rfl,List.Perm.refl _,rfl,by exact zz9 _,by(solve_by_elim (maxDepth:=3) only[*,jP,ma,zz8,lq]),rfl⟩) ?s3)
 case s2=>
  rintro c st' ⟨b,lo,pd,g,rfl,p1,rfl,p2,p3,p4⟩
  have:lo=a.size:=by
   rcases p3 with p3 |p3
   ·have p3':max 0 a.size≤lo:=p3
    exact Nat.le_antisymm ‹_› ‹_›
   ·exact p3
  subst this
  exact⟨b,pd,g,rfl,p1,rfl,p4⟩
 case s1=>
  rintro x c st' - x2 ⟨b,lo,pd,g,rfl,p1,rfl,p2,p3,p4⟩
  have bz:b.size=a.size:=by have:=p1.length_eq;simpa using this
  refine JO fun R hR=>?_
  have Rd:∀b pd g,b.toList.Perm a.toList→Ch O key b pd.toList 0 a.size→R (.done (none,a.size)) (SortSt.mk' κ b pd g none):=fun b pd g q1 q2=>by rw[hR];exact⟨b,pd,g,rfl,q1,rfl,q2⟩
  have Ry:∀b lo pd g,b.toList.Perm a.toList→lo≤a.size→(x+1≤lo∨lo=a.size)→Ch O key b pd.toList 0 lo→R (.yield (none,lo)) (SortSt.mk' κ b pd g none):=fun b lo pd g q1 q2 q3 q4=>by rw[hR];exact⟨b,lo,pd,g,rfl,q1,rfl,q2,q3,q4⟩
  clear hR
  dsimp -zeta only
  extract_lets
  refine iK (fun z=>?_) (fun z=>?_)
  ·have:lo=a.size:=by exact Nat.le_antisymm ‹_› ‹_›
   subst this
   exact wpS_pure (Rd b pd g p1 p4)
  have z':lo < a.size:=by exact Nat.lt_of_not_le ‹_›
  refine wpS_bind (yY C (fun x hx=>da x (p1.mem_iff.mp hx)) (lo:=lo) (nrem:=a.size - lo) (by exact Nat.sub_pos_of_lt ‹_›) (by lia) fun n c n1 n2 sc ss=>?_)
  dsimp -zeta only
  extract_lets
  rename Unit→Nat→_=>jp
  have J:∀(n:Nat) (c:Array Keyed),1≤n→n≤a.size - lo→Sx b c lo (lo+(a.size - lo))→So O key c lo (lo+n)→wpS (model prog w) A E s (jp () n) R (SortSt.mk' κ c pd g none):=by
   intro n c n1 n2 sc ss
   have cp:c.toList.Perm a.toList:=sc.perm.trans p1
   have ch:Ch O key c pd.toList 0 lo:=p4.ext fun j _ hj=>sc.out j (.inl hj)
   refine wpS_bind (wpS_get ?_)
   dsimp -zeta only
   extract_lets
   rename Unit→_=>jq
   have K:∀c pd g,c.toList.Perm a.toList→Ch O key c pd.toList 0 lo→So O key c lo (lo+n)→wpS (model prog w) A E s (jq ()) R (SortSt.mk' κ c pd g none):=by
    intro c pd g cp ch ss
    refine wpS_bind (wpS_modify (wpS_pure (Ry c (lo+n) (pd.push (lo,n,0)) g cp (by lia) (by lia) ?_)))
    rw[Array.toList_push]
    exact ch.join (Ch.one ss n1)
   clear_value jq
   cases eb:pd.back? with
   |none=>exact K c pd g cp ch ss
   |some t=>
    dsimp -zeta only
    refine wpS_bind (wpS_mono (wpS_forRange (I:=fun x r st'=>r=(none,())∧∃c pd g,st'=SortSt.mk' κ c pd g none∧c.toList.Perm a.toList∧Ch O key c pd.toList 0 lo∧So O key c lo (lo+n))
     (Q:=fun r st'=>r=(none,())∧∃c pd g,st'=SortSt.mk' κ c pd g none∧c.toList.Perm a.toList∧Ch O key c pd.toList 0 lo∧So O key c lo (lo+n)) ?t1 (fun _ _ q=>q) ⟨rfl,c,pd,g,rfl,cp,ch,ss⟩) ?t3)
    case t3=>
     rintro r st' ⟨rfl,c,pd,g,rfl,cp,ch,ss⟩
     refine wpS_bind (wpS_modify (K c _ g cp (ch.map ?_) ss))
     rw[Array.toList_modify]
     refine G5 _ ?_ _ _
     exact fun _=>⟨rfl,rfl⟩
    case t1=>
     rintro y r st' - - ⟨rfl,c,pd,g,rfl,cp,ch,ss⟩
     refine wpS_bind (wpS_get ?_)
     dsimp only
     by_cases pz:pd.size > 1
     ·rw[if_pos pz,getElem?_pos pd (pd.size - 2) (by lia)]
      refine iK (fun _=>?_) (fun _=>?_)
      ·exact wpS_pure ⟨rfl,c,pd,g,rfl,cp,ch,ss⟩
      ·have cz:c.size=a.size:=by have:=cp.length_eq;simpa using this
       refine wpS_bind (sk C (fun x hx=>da x (cp.mem_iff.mp hx)) (i:=pd.size - 2) (lo:=lo) (by lia) (by lia) ch fun d pd' g' dp od dc _=>?_)
       exact wpS_pure ⟨rfl,d,pd',g',rfl,dp.trans cp,dc,ss.ext fun j j1 _=>od j j1⟩
     ·rw[if_neg pz]
      exact wpS_pure ⟨rfl,c,pd,g,rfl,cp,ch,ss⟩
  clear_value jp
  refine iK (fun y=>?_) (fun y=>?_)
  ·refine wpS_bind (wpS_lift (wpAny_rule ⟨rfl,?_⟩))
   have cz:=sc.size
   refine wpS_bind (uH C (a:=c) (lo:=lo) (n:=min (a.size - lo) (minRun' a.size a.size 0)) (ok:=n) (fun x hx=>da x (p1.mem_iff.mp (sc.perm.mem_iff.mp hx))) n1 (by have y':n < minRun' a.size a.size 0:=y;lia) (by lia) ss fun d sd ds=>?_)
   refine bg (by simp) ?_
   exact J _ d (by have y':n < minRun' a.size a.size 0:=y;lia) (by lia) (sc.trans ⟨sd.perm,fun j hj=>sd.out j (by lia)⟩) ds
  ·exact J n c n1 n2 sc ss
 case s3=>
  rintro c st' ⟨b,pd,g,rfl,p1,rfl,p2⟩
  refine wpS_bind (wpS_mono (wpS_forRange (I:=fun x r st'=>r=(none,())∧∃c pd g,st'=SortSt.mk' κ c pd g none∧c.toList.Perm a.toList∧Ch O key c pd.toList 0 a.size∧(pd.size+x≤a.size∨pd.size≤1))
   (Q:=fun r st'=>r=(none,())∧∃c pd g,st'=SortSt.mk' κ c pd g none∧c.toList.Perm a.toList∧Ch O key c pd.toList 0 a.size∧pd.size≤1) ?t1 ?t2 ⟨rfl,b,pd,g,rfl,p1,p2,.inl (by have:=p2.le;simp at this;assumption)⟩) ?t3)
  case t2=>
   rintro r st' ⟨rfl,c,pd,g,rfl,cp,ch,hz⟩
   refine⟨rfl,c,pd,g,rfl,cp,ch,?_⟩
   rcases hz with hz |hz
   ·have hz':pd.size+max 0 a.size≤a.size:=hz
    lia
   ·exact hz
  case t1=>
   rintro y r st' - - ⟨rfl,c,pd,g,rfl,cp,ch,hz⟩
   refine wpS_bind (wpS_get ?_)
   refine iK (fun z=>?_) (fun z=>?_)
   ·exact wpS_pure ⟨rfl,c,pd,g,rfl,cp,ch,z⟩
   ·have z':1 < pd.size:=Nat.lt_of_not_le z
    have cz:c.size=a.size:=by have:=cp.length_eq;simpa using this
    extract_lets
    refine wpS_bind (Ew fun i hi=>?_)
    refine sk C (fun x hx=>da x (cp.mem_iff.mp hx)) (i:=i) (lo:=a.size) ?_ (by exact Nat.le_of_eq (Eq.symm ‹_›)) ch fun d pd' g' dp od dc dz=>?_
    ·rcases hi with rfl |rfl
     ·show pd.size - 2 - 1+1 < pd.size
      lia
     ·show pd.size - 2+1 < pd.size
      lia
    ·exact wpS_pure ⟨rfl,d,pd',g',rfl,dp.trans cp,dc,by lia⟩
  case t3=>
   rintro r st' ⟨rfl,c,pd,g,rfl,cp,ch,hz⟩
   refine wpS_pure (h c pd g cp ?_)
   obtain⟨l⟩:=pd
   match l,hz,ch with
   |[],_,ch=>
    have:0=a.size:=ch
    rw[←this]
    exact fun i j _ _ q=>by lia
   |[t],_,ch=>
    obtain⟨_,_,s1,e⟩:=ch
    have e':0+t.2.1=a.size:=e
    rw[e']at s1
    exact s1
   |_::_::_,hz,_=>simp at hz
end
end NhLS
namespace NhSG
set_option autoImplicit false
open PySem PyProof PyProof.Rows PySem.W
def Keep(h h':Heap):Prop:=∀b o,h.get? b=some o→h'.get? b=some o
theorem Keep.trans{h1:Heap}(a:Keep h h1)(b:Keep h1 h2):Keep h h2:=fun c o e=>b c o (a c o e)
def IsKy(hp:Heap)(v:Value)(y:Ky):Prop:=∃c o xs k t z u,v=.ref c∧hp.get? c=some o∧o.cls=.type "tuple"∧o.data=.seq xs k∧xs.toList=[.int y.1 t,.str z u]∧y.2=z.cps.toList
theorem IsKy.keep{v:Value}{y:Ky}(a:IsKy h v y)(k:Keep h h'):IsKy h' v y:=by
 obtain⟨c,o,xs,n,t,z,u,e,ho,r⟩:=a
 exact⟨c,o,xs,n,t,z,u,e,k c o ho,r⟩
theorem IsKy.key{v:Value}{y:Ky}(a:IsKy h v y):qY h v=some y:=by
 obtain⟨c,o,xs,n,t,z,u,rfl,ho,hc,hd,hx,e⟩:=a
 rw[GY ho hd hx,←e]
def KA(hp:Heap):List Value→List Ky→Prop
 |[],[]=>True
 |v::vs,y::ys=>IsKy hp v y∧KA hp vs ys
 |_,_=>False
theorem KA.keep(k:Keep h h'):∀{vs:List Value} {ys:List Ky},KA h vs ys→KA h' vs ys
 |[],[],_=>trivial
 |v::vs,y::ys,a=>⟨a.1.keep k,KA.keep k a.2⟩
 |[],_::_,a=>a.elim
 |_::_,[],a=>a.elim
theorem KA.len:∀{vs:List Value} {ys:List Ky},KA h vs ys→vs.length=ys.length
 |[],[],_=>rfl
 |v::vs,y::ys,a=>by simp[KA.len a.2]
 |[],_::_,a=>a.elim
 |_::_,[],a=>a.elim
theorem KA.snoc{v:Value}{y:Ky}(b:IsKy h v y):∀{vs:List Value} {ys:List Ky},KA h vs ys→KA h (vs++[v]) (ys++[y])
 |[],[],_=>⟨b,trivial⟩
 |_::_,_::_,a=>⟨a.1,KA.snoc b a.2⟩
 |[],_::_,a=>a.elim
 |_::_,[],a=>a.elim
theorem KA.tups:∀{vs:List Value} {ys:List Ky},KA h vs ys→∃fs,KatTups h vs fs∧(∀f∈fs,∃n t,f=.int n t)∧fs.length=vs.length
 |[],[],_=>⟨[],trivial,(fun _ z=>by cases z),rfl⟩
 |v::vs,y::ys,a=>by
  obtain⟨fs,t,hf,hl⟩:=KA.tups a.2
  obtain⟨c,o,xs,n,tk,z,u,rfl,ho,hc,hd,hx,e⟩:=a.1
  refine⟨.int y.1 tk::fs,KatTups.cons ho hc hd ?_ t,fun f hm=>?_,by simp[hl]⟩
  ·rw[←Array.getElem?_toList,hx]
   rfl
  ·rcases Zag.mp hm with rfl |hm
   ·exact⟨_,_,rfl⟩
   ·exact hf f hm
 |[],_::_,a=>a.elim
 |_::_,[],a=>a.elim
def Cg(ys:List Ky)(vs out:List Value):Prop:=∃ps:List (Ky×Value),ps.Perm (ys.zip vs)∧ps.Pairwise (fun p q=>gJ q.1 p.1=false)∧out=ps.map (·.2)
@[reducible] def wG (h:Heap) (p:Keyed):Ky:=(qY h p.1).getD (0,[])
theorem M2{prog:Program}{w:World}{A:Around}{s:Shared}:NhLS.Cmp prog w A s (tuples' true) (f_ s.heap).toKeyOrd (wG s.heap) (fun p=>∃y,qY s.heap p.1=some y):=
 ⟨fun E x y Q ⟨a,ha⟩ ⟨b,hb⟩ hq=>by
  have hq':Q (gJ (wG s.heap x) (wG s.heap y)) s:=hq
  unfold wG at hq'
  rw[ha,hb]at hq'
  exact GZ E x.1 y.1 a b ha hb hq'⟩
theorem KA.zip:∀{ks:List Value} {ys:List Ky} {vs:List Value},KA h ks ys→(ks.zip vs).map (fun p=>(wG h p,p.2))=ys.zip vs
 |[],[],_,_=>by simp
 |k::ks,y::ys,[],_=>by simp
 |k::ks,y::ys,v::vs,a=>by
  simp only[List.zip_cons_cons,gR]
  rw[KA.zip a.2]
  congr 1
  show((qY h k).getD (0,[]),v)=(y,v)
  rw[a.1.key]
  rfl
 |[],_::_,_,a=>a.elim
 |_::_,[],_,a=>a.elim
theorem KA.dom{vs:List Value}:∀{ks:List Value} {ys:List Ky},KA h ks ys→∀p∈ks.zip vs,∃y,qY h p.1=some y:=fun {ks ys} a p hp=>by
 have hk:p.1∈ks:=(List.of_mem_zip hp).1
 clear hp
 induction ks generalizing ys with
 |nil=>cases hk
 |cons k ks ih=>cases ys with
  |nil=>exact a.elim
  |cons y ys=>
   rcases Zag.mp hk with e |hk
   ·rw[e];exact⟨y,a.1.key⟩
   ·exact ih a.2 hk
theorem JR{ks:List Value}{ys:List Ky}{vs:List Value}{b:Array Keyed}(hK:KA h ks ys)(hp:b.toList.Perm (ks.zip vs))(hs:NhLS.So (f_ h).toKeyOrd (wG h) b 0 b.size):Cg ys vs (b.map (·.2)).toList:=by
 refine⟨b.toList.map (fun p=>(wG h p,p.2)),?_,?_,?_⟩
 ·rw[←hK.zip (vs:=vs)]
  exact hp.map _
 ·rw[List.pairwise_map,List.pairwise_iff_getElem]
  intro i j hi hj hij
  rw[NhLS.i7,NhLS.i7]
  exact hs i j (zz9 _) hij (by simpa using hj)
 ·rw[Array.toList_map,List.map_map]
  rfl
section
variable {prog:Program} {w:World} {A:Around} {E:Value→Shared→Prop} {s:Shared} {a kS:Addr} {ks vs:List Value} {ys:List Ky} {e e1:Nat} {P:PySem.Fin→Shared→Prop}
theorem AJ{st:SortSt} (hk:s.heap.get? kS=some (seqObj "list" ks.toArray e)) (ha:s.heap.get? a=some (seqObj "list" #[] e1)) (hka:kS≠a) (h64:vs.length < 65536) (hl:ks.length=vs.length) (hn:(arrOf st).size=vs.length) (hfl:failedOf st=none)
  (h:∀h' tk c,h'.get? a=some (seqObj "list" ((arrOf st).map (·.2)) c)→(∀b o,b≠a→b≠kS→s.heap.get? b=some o→h'.get? b=some o)→P (.done (.ret .none)) {s with heap:=h',toks:=tk}):
  wpAny (model prog w) A (ksk_tail a false e1 (.ref kS) st) P E s:=by
 have s1:=Heap.SameBut.update s.heap kS (Obj.mapSeq fun _=>(#[]:Array Value))
 have na1:(s.heap.update kS (Obj.mapSeq fun _=>(#[]:Array Value))).get? a=some (seqObj "list" #[] e1):=(s1.2 a hka.symm).trans ha
 have s2:=Heap.SameBut.update (s.heap.update kS (Obj.mapSeq fun _=>(#[]:Array Value))) a (Obj.mapSeq fun _=>(arrOf st).map (·.2))
 obtain⟨c2,hc2⟩:∃c2,((s.heap.update kS (Obj.mapSeq fun _=>(#[]:Array Value))).update a (Obj.mapSeq fun _=>(arrOf st).map (·.2))).get? a=some (seqObj "list" ((arrOf st).map (·.2)) c2):=⟨_,get?_update_seq na1 fun _=>(arrOf st).map (·.2)⟩
 unfold ksk_tail
 try dsimp only
 refine zz0 (listUpdate_at hk rfl ?_ (by rw[k7,sizeLine_eq];omega) (zz9 _))
 refine zz0 (wpAny_letGo ?_)
 refine zz0 (seqEpoch_at na1 rfl ?_)
 simp only[iy]
 refine zz0 (listUpdate_at na1 rfl ?_ (zz9 _) (by rw[Array.size_map,hn,sizeLine_eq];omega))
 rw[hfl]
 simp only[bne_self_eq_false,iy]
 exact zz1 (h _ _ c2 hc2 fun b o h1 h2 q=>(s2.2 b h1).trans ((s1.2 b h2).trans q))
theorem JS(hK:KA s.heap ks ys) (hk:s.heap.get? kS=some (seqObj "list" ks.toArray e)) (ha:s.heap.get? a=some (seqObj "list" #[] e1)) (hka:kS≠a) (h64:vs.length < 65536) (hl:ks.length=vs.length)
  (h:∀h' tk out c,h'.get? a=some (seqObj "list" out c)→Cg ys vs out.toList→(∀b o,b≠a→b≠kS→s.heap.get? b=some o→h'.get? b=some o)→P (.done (.ret .none)) {s with heap:=h',toks:=tk}):
  wpAny (model prog w) A (ksk_end a false vs.toArray e1 (.ref kS) ks.toArray) P E s:=by
 have hzs:(ks.toArray.zip vs.toArray).size=vs.length:=by rw[Array.size_zip,k7,k7,hl,Nat.min_self]
 unfold ksk_end
 try dsimp only
 simp only[iy]
 by_cases h2:vs.toArray.size < 2
 ·rw[if_pos h2,if_pos h2]
  refine zz0 (zz1 ?_)
  rw[StateT.run_pure]
  refine zz0 (zz1 ?_)
  try dsimp only
  refine AJ (st:=SortSt.mk' general' (ks.toArray.zip vs.toArray) #[] 7 none) hk ha hka h64 hl hzs rfl fun h' tk c h1 h3=>h h' tk _ c h1 ⟨ys.zip vs,List.Perm.refl _,?_,?_⟩ h3
  ·rw[k7]at h2
   rw[List.pairwise_iff_getElem]
   intro i j hi hj hij
   simp at hj
   omega
  ·have e1:(ys.zip vs).map (·.2)=vs:=by rw[List.map_snd_zip];have:=hK.len;omega
   have e2:((arrOf (SortSt.mk' general' (ks.toArray.zip vs.toArray) #[] 7 none)).map (·.2)).toList=(ks.zip vs).map (·.2):=by
    show((ks.toArray.zip vs.toArray).map (·.2)).toList=_
    simp
   rw[e1,e2,List.map_snd_zip]
   omega
 ·rw[if_neg h2,if_neg h2]
  rw[k7]at h2
  obtain⟨fs,tt,hf,lf⟩:=hK.tups
  refine zz0 (kat_kind (T:=.type "int") tt (by omega) (fun v hv=>?_) (by decide) ?_)
  ·obtain⟨n,t,rfl⟩:=hf v hv
   exact .now
  ·have run:=NhLS.yZ (E:=E) (a:=ks.toArray.zip vs.toArray) (g:=7) (M2 (prog:=prog) (w:=w) (A:=A) (s:=s)) (Q:=fun _ st'=>∃b pd g,st'=SortSt.mk' (tuples' true) b pd g none∧b.toList.Perm (ks.zip vs)∧NhLS.So (f_ s.heap).toKeyOrd (wG s.heap) b 0 b.size)
    (by simpa using hK.dom) fun b pd g hp hs=>⟨b,pd,g,rfl,by simpa using hp,by have:=hp.length_eq;simp only[xI]at this;rw[this];exact hs⟩
   refine zz0 (zz2 run ?_ fun _ _ e=>e)
   rintro⟨⟨⟩,st'⟩ s' ⟨es,b,pd,g,e,hp,hs⟩
   subst es
   dsimp only at e
   subst e
   try dsimp only
   have hz:b.size=vs.length:=by have:=hp.length_eq;simpa[hl]using this
   exact AJ (st:=SortSt.mk' (tuples' true) b pd g none) hk ha hka h64 hl hz rfl fun h' tk c h1 h3=>h h' tk _ c h1 (JR hK hp hs) h3
def mL(prog:Program)(w:World)(A:Around)(f:Value)(s:Shared)(v:Value)(y:Ky):Prop:=∀(h:Heap) (tk:Nat),Keep s.heap h→
 wpAny (model prog w) A (call f [v]) (fun r s'=>∃h' tk',s'={s with heap:=h',toks:=tk'}∧Keep h h'∧IsKy h' r y) (fun _ _=>False) {s with heap:=h,toks:=tk}
theorem G6{f:Value} {s0:Shared} (hs0:Keep s0.heap s.heap) (hss:∃tk,s={s0 with heap:=s.heap,toks:=tk}) (h0a:s0.heap.get? a=none) (h0k:s0.heap.get? kS=none) (hk:s.heap.get? kS=some (seqObj "list" #[] 0)) (ha:s.heap.get? a=some (seqObj "list" #[] e1)) (hka:kS≠a) (h64:vs.length < 65536) (hl:ys.length=vs.length)
  (turn:∀(i:Nat) (v:Value) (y:Ky),vs[i]? =some v→ys[i]? =some y→mL prog w A f s0 v y)
  (h:∀h' tk out c,h'.get? a=some (seqObj "list" out c)→Cg ys vs out.toList→Keep s0.heap h'→P (.done (.ret .none)) {s0 with heap:=h',toks:=tk}):
  wpAny (model prog w) A (ksk_rest a f false vs.toArray e1 (.ref kS)) P E s:=by
 unfold ksk_rest
 refine zz0 (wpAny_rule ?_)
 first
  |rw[List.forIn_toArray]
  |(rw[←Array.forIn_toList];simp only[List.toList_toArray])
  |rw[←Array.forIn_toList]
 obtain⟨tk0,es⟩:=hss
 refine zz0 (ksk_fold (fun i s'=>∃h' tk kL e,s'={s0 with heap:=h',toks:=tk}∧Keep s0.heap h'∧h'.get? kS=some (seqObj "list" kL.toArray e)∧h'.get? a=some (seqObj "list" #[] e1)∧KA h' kL (ys.take i)) vs 0 s
  ⟨s.heap,tk0,[],0,es,hs0,hk,ha,by simp[KA]⟩ ?step ?done)
 case step=>
  rintro j x s' hx ⟨h',tk,kL,e,rfl,F',N1,N2,hK⟩
  simp only[Nat.zero_add]at hK ⊢
  have hj:j < vs.length:=(Zav.mp hx).1
  obtain⟨y,hyj⟩:∃y,ys[j]? =some y:=⟨_,vH (by omega)⟩
  have hz:kL.length≤vs.length:=by
   have h1:=hK.len
   rw[List.length_take]at h1
   omega
  refine zz0 (wpAny_attempt (zz2 (turn j x y hx hyj h' tk F') (fun v s'' he=>?_) fun _ _ hF=>hF.elim))
  obtain⟨g,tk2,rfl,kg,hy⟩:=he
  try dsimp only
  have nk:=kg _ _ N1
  have na:=kg _ _ N2
  have s1:=Heap.SameBut.update g kS (Obj.mapSeq (·.push v))
  obtain⟨c2,hc2⟩:∃c2,(g.update kS (Obj.mapSeq (·.push v))).get? kS=some (seqObj "list" (kL.toArray.push v) c2):=⟨_,get?_update_seq nk (·.push v)⟩
  have ek:ys.take (j+1)=ys.take j++[y]:=by rw[List.take_add_one,hyj];simp
  have ea:kL.toArray.push v=(kL++[v]).toArray:=by simp
  have ng:∀{ks':List Value} {ys':List Ky},KA g ks' ys'→KA (g.update kS (Obj.mapSeq (·.push v))) ks' ys':=fun {ks'} {ys'} q=>by
   induction ks' generalizing ys' with
   |nil=>cases ys' with
    |nil=>trivial
    |cons _ _=>exact q.elim
   |cons k ks' ih=>cases ys' with
    |nil=>exact q.elim
    |cons y' ys'=>
     refine⟨?_,ih q.2⟩
     obtain⟨c,o,xs,n,t,z,u,ec,ho,hcl,r⟩:=q.1
     refine⟨c,o,xs,n,t,z,u,ec,(s1.2 c ?_).trans ho,hcl,r⟩
     intro e3
     subst e3
     rw[nk]at ho
     cases ho
     have e4:Value.type "list"=Value.type "tuple":=hcl
     injection e4 with e5
     exact absurd e5 (by decide)
  refine zz0 (listUpdate_at nk rfl ?_ (by rw[k7,sizeLine_eq];omega) (jP (Nat.le_of_eq (Array.size_push ..)) (by rw[k7,sizeLine_eq];omega)))
  refine zz1 ⟨rfl,_,_,kL++[v],c2,rfl,fun b o q=>?_,by rw[←ea];exact hc2,(s1.2 a hka.symm).trans na,by rw[ek];exact ng (KA.snoc hy (hK.keep kg))⟩
  refine(s1.2 b fun e3=>?_).trans (kg _ _ (F' _ _ q))
  subst e3
  rw[h0k]at q
  cases q
 case done=>
  rintro s' ⟨h',tk,kL,e,rfl,F',N1,N2,hK⟩
  have e3:ys.take (0+vs.length)=ys:=List.take_of_length_le (by omega)
  rw[e3]at hK
  try dsimp only
  refine zz0 (listItems_at N1 rfl ?_)
  refine JS (s:={s0 with heap:=h',toks:=tk}) hK N1 N2 hka h64 (by rw[hK.len,hl]) fun h3 tk3 out c g1 g2 g3=>h h3 tk3 out c g1 g2 fun b o q=>g3 b o ?_ ?_ (F' b o q)
  ·intro z;subst z;rw[h0a]at q;cases q
  ·intro z;subst z;rw[h0k]at q;cases q
theorem G7{f:Value}  {s0:Shared} (hs0:Keep s0.heap s.heap) (hss:∃tk,s={s0 with heap:=s.heap,toks:=tk}) (h0a:s0.heap.get? a=none) (hle:s0.heap.objs.size≤s.heap.objs.size) (ho:s.heap.get? a=some (seqObj "list" vs.toArray n)) (h64:vs.length < 65536) (hl:ys.length=vs.length)
  (turn:∀(i:Nat) (v:Value) (y:Ky),vs[i]? =some v→ys[i]? =some y→mL prog w A f s0 v y)
  (h:∀h' tk out c,h'.get? a=some (seqObj "list" out c)→Cg ys vs out.toList→Keep s0.heap h'→P (.done (.ret .none)) {s0 with heap:=h',toks:=tk}):
  wpAny (model prog w) A (ksk_tree a f false) P E s:=by
 have ha:a < s.heap.objs.size:=fP ho
 have s1:=Heap.SameBut.update s.heap a (Obj.mapSeq fun _=>(#[]:Array Value))
 obtain⟨e1,ho1⟩:∃e1,(s.heap.update a (Obj.mapSeq fun _=>(#[]:Array Value))).get? a=some (seqObj "list" #[] e1):=⟨_,get?_update_seq ho fun _=>#[]⟩
 have hkS:((s.heap.update a (Obj.mapSeq fun _=>(#[]:Array Value))).push (seqObj "tuple" vs.toArray 0)).objs.size=s.heap.objs.size+1:=by rw[size_push',Heap.size_update]
 obtain⟨tk0,es⟩:=hss
 unfold ksk_tree
 refine zz0 (listItems_at ho rfl ?_)
 refine zz0 (listUpdate_at ho rfl ?_ (by rw[k7,sizeLine_eq];omega) (zz9 _))
 refine zz0 (seqEpoch_at ho1 rfl ?_)
 refine zz0 (wpAny_newTuple ?_ (by show vs.length≤_;rw[sizeLine_eq];omega))
 refine zz0 (wpAny_newList ?_ (zz9 _))
 refine zz7 ?_
 refine G6 (s:={s with heap:=((s.heap.update a (Obj.mapSeq fun _=>(#[]:Array Value))).push (seqObj "tuple" vs.toArray 0)).push (seqObj "list" #[] 0)}) (kS:=((s.heap.update a (Obj.mapSeq fun _=>(#[]:Array Value))).push (seqObj "tuple" vs.toArray 0)).objs.size) (s0:=s0)
  (fun b o q=>?_) ⟨tk0,by rw[es]⟩ h0a (Heap.get?_none_of_le (by rw[hkS];omega)) (mf _ rfl) (gD _ (gD _ ho1)) (by rw[hkS];exact Nat.ne_of_gt (xJ ha)) h64 hl turn h
 refine gD _ (gD _ ((s1.2 b fun z=>?_).trans (hs0 b o q)))
 subst z
 rw[h0a]at q
 cases q
end
end NhSG
namespace NhSG
set_option autoImplicit false
open PySem PyProof PyProof.Rows PySem.W
section
variable {prog:Program} {w:World} {A:Around} {E:Value→Shared→Prop} {s:Shared} {l q:Addr} {vs:List Value} {ys:List Ky} {Q:Value→Shared→Prop}
theorem y_(hl:s.heap.IsList l vs.toArray)(hlen:ys.length=vs.length)(h64:vs.length < 65536)
  (turn:∀(i:Nat) (v:Value) (y:Ky),vs[i]? =some v→ys[i]? =some y→mL prog w A.in1.in1 (.ref q) s v y)
  (h:∀D h' tk out c,h'.get? D=some (seqObj "list" out c)→s.heap.objs.size≤D→Cg ys vs out.toList→Keep s.heap h'→Q (.ref D) {s with heap:=h',toks:=tk}):
  wpAny (model prog w) A (call (.builtin "sorted") [.ref l] [(Str.ofString "key",.ref q)]) Q E s:=by
 refine call_function_entry_kw kind_sorted plain_sorted entry_sorted (ksk_s1 _ _) ?_
 unfold Builtin.«sorted»
 refine zz0 (m:=checkCount "sorted" 1 1 _) (zz1 ?_)
 refine zz0 (collect_list hl ?_ (by rw[sizeLine_eq];omega))
 refine zz0 (wpAny_newList ?_ (by rw[sizeLine_eq];omega))
 have hsz:((s.heap.push (seqObj "list" #[] 0)).update s.heap.objs.size (Obj.mapSeq (· ++vs.toArray))).objs.size=s.heap.objs.size+1:=by
  rw[Heap.size_update,size_push']
 have hoL:(((s.heap.push (seqObj "list" #[] 0)).update s.heap.objs.size (Obj.mapSeq (· ++vs.toArray))).push (seqObj "list" vs.toArray 0)).get? (s.heap.objs.size+1)=some (seqObj "list" vs.toArray 0):=by
  rw[←hsz];exact mf _ rfl
 have keep:Keep s.heap (((s.heap.push (seqObj "list" #[] 0)).update s.heap.objs.size (Obj.mapSeq (· ++vs.toArray))).push (seqObj "list" vs.toArray 0)):=fun b o q=>by
  have hlt:b < s.heap.objs.size:=fP q
  rw[Heap.get?_push_ne _ _ _ (by rw[hsz];exact gS (xJ hlt)),Heap.get?_update_ne _ _ _ _ (gS hlt),Heap.get?_push_ne _ _ _ (gS hlt)]
  exact q
 show wpAny _ _ _ _ _ {s with heap:=((s.heap.push (seqObj "list" #[] 0)).update s.heap.objs.size (Obj.mapSeq (· ++vs.toArray))).push (seqObj "list" vs.toArray 0)}
 rw[hsz]
 have h0:s.heap.get? (s.heap.objs.size+1)=none:=Heap.get?_none_of_le (Nat.le_succ _)
 refine zz0 (zz7 (wpAny_call_entry_kw slot_list_sort ⟨_,hoL,rfl⟩ entry_list_sort ?body (ksk_l1 _ _)))
 case body=>
  show wpAny (model prog w) A.in1.in1 (Builtin.«list.sort» ⟨[.ref (s.heap.objs.size+1)],[(Str.ofString "key",.ref q)]⟩) _ _ _
  rw[ksk_t1]
  refine G7 (s:={s with heap:=((s.heap.push (seqObj "list" #[] 0)).update s.heap.objs.size (Obj.mapSeq (· ++vs.toArray))).push (seqObj "list" vs.toArray 0)}) (s0:=s) keep ⟨s.toks,rfl⟩ h0 (by rw[size_push',hsz];omega) hoL h64 hlen turn fun h' tk out c g1 g2 g3=>⟨_,rfl,?_⟩
  exact zz1 ⟨_,rfl,h _ h' tk out c g1 (Nat.le_succ _) g2 g3⟩
end
end NhSG
namespace NhSG
set_option autoImplicit false
open PySem
def jt(z:Str):Ky:=(z.length,z.cps.toList)
def vG(a b:Str):Bool:= !gJ (jt b) (jt a)
def k_(ws:List Str):List Str:=ws.mergeSort vG
def xM:Value→Option Str
 |.str z _=>some z
 |_=>none
theorem Ex{a b:Str}(h:jt a=jt b):a=b:=by
 have e:a.cps.toList=b.cps.toList:=congrArg Prod.snd h
 cases a;cases b
 congr
 exact Array.toList_inj.mp e
theorem Ci(a b c:Str)(h1:vG a b=true)(h2:vG b c=true):vG a c=true:=by
 unfold vG at *
 simp only[Bool.not_eq_true']at *
 exact(PyProof.Rows.KeyOrd.kle_trans (O:=(f_ default).toKeyOrd) h1 h2)
theorem Cj(a b:Str):(vG a b||vG b a)=true:=by
 unfold vG
 by_cases h:gJ (jt b) (jt a)=true
 ·have:gJ (jt a) (jt b)=false:=PyProof.Rows.KeyOrd.klt_asymm (O:=(f_ default).toKeyOrd) h
  simp[this]
 ·simp[Bool.not_eq_true _▸h]
theorem Ey{a b:Str}(h1:vG a b=true)(h2:vG b a=true):a=b:=by
 unfold vG at *
 simp only[Bool.not_eq_true']at *
 exact Ex ((f_ default).total _ _ h2 h1)
theorem sm{qs ws:List Str}(hp:qs.Perm ws)(hs:qs.Pairwise fun a b=>vG a b=true):qs=k_ ws:=by
 have h1:(k_ ws).Pairwise fun a b=>vG a b=true:=List.pairwise_mergeSort Ci Cj ws
 have h2:qs.Perm (k_ ws):=hp.trans (xP ws vG).symm
 exact h2.eq_of_pairwise (fun a b _ _ x y=>Ey x y) hs h1
theorem Ck{ws:List Str}{vs out:List Value}(hv:vs.map xM=ws.map some)(h:Cg (ws.map jt) vs out):out.map xM=(k_ ws).map some:=by
 obtain⟨ps,hp,hs,rfl⟩:=h
 have key:∀(ws:List Str) (vs:List Value),vs.map xM=ws.map some→∀p∈(ws.map jt).zip vs,∃z,p.1=jt z∧xM p.2=some z:=fun ws=>by
  induction ws with
  |nil=>intro vs _ p hp;simp at hp
  |cons w ws ih=>
   intro vs hv p hp
   cases vs with
   |nil=>simp at hp
   |cons v vs=>
    simp only[gR,List.cons.injEq]at hv
    rw[gR,List.zip_cons_cons]at hp
    rcases Zag.mp hp with rfl |hp
    ·exact⟨w,rfl,hv.1⟩
    ·exact ih vs hv.2 p hp
 have zm:∀(ws:List Str) (vs:List Value),vs.map xM=ws.map some→((ws.map jt).zip vs).map (fun p=>xM p.2)=ws.map some:=fun ws=>by
  induction ws with
  |nil=>intro vs _;simp
  |cons w ws ih=>
   intro vs hv
   cases vs with
   |nil=>simp at hv
   |cons v vs=>
    simp only[gR,List.cons.injEq]at hv
    simp only[gR,List.zip_cons_cons,hv.1,ih vs hv.2]
 have ex:∀ps:List (Ky×Value),(∀p∈ps,∃z,p.1=jt z∧xM p.2=some z)→∃qs:List Str,ps.map (·.1)=qs.map jt∧ps.map (fun p=>xM p.2)=qs.map some:=fun ps=>by
  induction ps with
  |nil=>intro _;exact⟨[],rfl,rfl⟩
  |cons p ps ih=>
   intro h
   obtain⟨z,h1,h2⟩:=h p (gE ..)
   obtain⟨qs,e1,e2⟩:=ih fun q hq=>h q (gQ _ hq)
   exact⟨z::qs,by simp[h1,e1],by simp[h2,e2]⟩
 obtain⟨qs,e1,e2⟩:=ex ps fun p hp'=>key ws vs hv p (hp.mem_iff.mp hp')
 have perm:qs.Perm ws:=by
  have h1:=hp.map (fun p=>xM p.2)
  rw[e2,zm ws vs hv]at h1
  have h2:=h1.filterMap id
  simpa using h2
 have srt:qs.Pairwise fun a b=>vG a b=true:=by
  have h1:(ps.map (·.1)).Pairwise fun a b=>gJ b a=false:=List.pairwise_map.mpr hs
  rw[e1,List.pairwise_map]at h1
  exact h1.imp fun h=>by unfold vG;simp[h]
 rw[List.map_map]
 show ps.map (fun p=>xM p.2)=_
 rw[e2,sm perm srt]
end NhSG
namespace NhSG
open PySem PySem.Spec PySem.Calls PyProof PyProof.Rows PySem.W
section
variable {prog:Program} {w:World} {A:Around} {E:Value→Shared→Prop} {s:Shared} {Q:Value→Shared→Prop}
theorem Ez{env:Env}  {t:Tok} {m mg mb:Str→Option Value} {p1 p3 p4 pos:Pos} {x1} (hk:env.scope.kind=.function) (hx:env.kindOf x=some .local) (hl:env.kindOf "len"=some .globalImplicit)
  (hn:s.heap.Ns env.locals m) (hm:m x=some (.str z t)) (hg:s.heap.Ns env.globals mg) (hlg:mg "len"=none) (hb:s.heap.Ns env.builtins mb) (hlb:mb "len"=some (.builtin "len")) (hz:z.length≤sizeLine)
  (h:∀h' tk r,Keep s.heap h'→IsKy h' r (jt z)→Q r {s with heap:=h',toks:=tk})
  (hd:(x == ("__debug__":Str))=false:=by decide) (h1:starEach [Expr.Call (.Name "len" p1) [.Name x p2] [] p3,.Name x p4] env=(false,eval (.Call (.Name "len" p1) [.Name x p2] [] p3) env)::starEach [Expr.Name x p4] env:=by rfl)
  (h2:starEach [Expr.Name x p4] env=[(false,eval (.Name x p4) env)]:=by rfl) (h3:starEach [Expr.Name x p2] env=(false,eval (.Name x p2) env)::starEach [] env:=by rfl):
  wpAny (model prog w) A (eval (.Tuple [.Call (.Name "len" p1) [.Name x p2] [] p3,.Name x p4] x1 pos) env) Q E s:=by
 refine wpAny_Tuple_spliced ?_
 rw[h1,h2]
 show wpAny _ _ (spliced ((false,eval (.Call (.Name "len" p1) [.Name x p2] [] p3) env)::backTo pos [(false,eval (.Name x p4) env)])) _ _ s
 refine Calls.spliced_cons ?_
 refine zz6 (Calls.Name_function_global hk hl (Calls.loadGlobal_builtin hg hlg hb hlb ?_) (by decide))
 refine PyProof.Rows.callWith_builtin1 ?_ h3 rfl
 rw[h3]
 show wpAny _ _ (spliced ((false,eval (.Name x p2) env)::backTo p3 (starEach [] env))) _ _ s
 refine Calls.spliced_cons (wpAny_Name (wpAny_loadName_local hk hx hn hm ?_) hd)
 show wpAny _ _ (spliced []) _ _ s
 refine Calls.spliced_nil ?_
 refine len_str (by have:=hz;rw[sizeLine_eq]at this;omega) ?_
 show wpAny _ _ (spliced [(false,standAt pos >>= fun _=>eval (.Name x p4) env)]) _ _ _
 refine Calls.spliced_cons (zz0 (wpAny_standAt (wpAny_Name (wpAny_loadName_local hk hx hn hm ?_) hd)))
 refine Calls.spliced_nil ⟨by rw[sizeLine_eq];simp,?_⟩
 exact h _ _ _ (fun b o e=>gD _ e) ⟨_,_,_,_,_,z,t,rfl,mf _ rfl,rfl,rfl,rfl,rfl⟩
structure KMod (h:Heap):Prop where
 g:∃mg,h.Ns mainGlobals mg∧mg "len"=none
 b:∃mb,h.Ns builtinsNs mb∧mb "len"=some (.builtin "len")
 lim:h.NoLimit
theorem KMod.keeps(a:KMod h)(k:Keep h h'):KMod h':=
 ⟨let ⟨mg,e,r⟩:=a.g;⟨mg,e.keeps k,r⟩,let ⟨mb,e,r⟩:=a.b;⟨mb,e.keeps k,r⟩,a.lim.keeps k⟩
theorem wH{f c':Addr}{name:Str}{t:Tok}{ctv:Value}{p1 p3 p4 pos:Pos}{x1}(M:KMod s.heap)(hroom:A.depth < recursionLimit)
  (ho:s.heap.get? f=some (kla_obj name qual params (.Tuple [.Call (.Name "len" p1) [.Name x p2] [] p3,.Name x p4] x1 pos) scope [] pm c' ctv)) (hcd:s.heap.CodeRec (.ref c') qual) (hz:z.length≤sizeLine)
  (hbind:bindArgs (kla_fn name qual params (.Tuple [.Call (.Name "len" p1) [.Name x p2] [] p3,.Name x p4] x1 pos) scope [] pm (.ref c') ctv) ⟨[.str z t],[]⟩=pure [(x,.str z t)])
  (hx:scope.names.lookup x=some .local) (hlen:scope.names.lookup (Str.ofString "len")=some .globalImplicit) (hco:scope.isCoroutine=false) (hgen:scope.isGenerator=false) (hk:scope.kind=.function) (hcell:∀x∈scope.names,x.2≠ .cell)
  (hd:(x == ("__debug__":Str))=false):mL prog w A (.ref f) s (.str z t) (jt z):=by
 intro h tk kp
 refine wpAny_call (kla_callFunE hroom (kp _ _ ho) rfl hco hgen rfl (hcd.keeps kp) ?_)
 rw[hbind]
 refine zz1 (wpAny_newFunctionEnv hcell (fun y hy=>?_) (fun h₁ hns hsb=>⟨((M.keeps kp).lim).fresh _ hsb,?_⟩) hk)
 ·rw[Zaf.mp hy];exact hx
 have hk₁:Keep h h₁:=fun b o e=>hsb.extBut b o (gS (fP e)) (gD _ e)
 have M1:=(M.keeps kp).keeps hk₁
 obtain⟨mg,g1,g2⟩:=M1.g
 obtain⟨mb,b1,b2⟩:=M1.b
 refine kla_codeExpr (Ez (t:=t) (z:=z) (m:=fun y=>List.lookup y [(x,Value.str z t)].reverse) hk hx hlen hns ?_ g1 g2 b1 b2 hz (fun h' tk' r k1 k2=>?_) hd)
 ·simp
 ·exact⟨h',tk',rfl,hk₁.trans k1,k2⟩
end
end NhSG
namespace PL
open PySem L2 Nh
def uI(f:ba):ba:=fun E=>(f E).bind fun a=>match look a.2 a.1 with
 |some (.list ds)=>(j4 ds).bind fun ss=>if (decide (ss.length < 65536)&&ss.all fun z=>decide (z.length≤1000))=true then some (.ow ((NhSG.k_ ss).map .str),a.2)else none
 |_=>none
theorem wI:∀{ws:List Str} {vs:List Value},Vals (ws.map V.str) vs→vs.map NhSG.xM=ws.map some
 |[],_,.nil=>rfl
 |w::ws,_,.cons r t=>by
  obtain⟨u,rfl⟩:=r
  simp only[gR,wI t]
  rfl
theorem wJ:∀{ws:List Str} {vs:List Value},vs.map NhSG.xM=ws.map some→Vals (ws.map V.str) vs
 |[],[],_=>.nil
 |[],_::_,h=>by simp at h
 |_::_,[],h=>by simp at h
 |w::ws,v::vs,h=>by
  simp only[gR,List.cons.injEq]at h
  refine .cons ?_ (wJ h.2)
  have h1:=h.1
  unfold NhSG.xM at h1
  split at h1
  ·cases h1;exact⟨_,rfl⟩
  ·cases h1
section
variable {X:Cx} {pins:List (Addr×Obj)} {σ:L2.St} {H:Hp} {s:Shared}
theorem LL(I:Inv X pins σ H s) (hl:X.mg "len"=none):NhSG.KMod s.heap:=
 ⟨⟨X.mg,I.mod.glob.keeps I.bk,hl⟩,let ⟨mb,h1,h2⟩:=I.mod.blt;⟨mb,h1.keeps I.bk,(h2 _ (by decide)).trans rfl⟩,I.nolimit⟩
theorem sq{l q:Addr}{ss:List Str}{Q:VK}(I:Inv X pins σ H s)(hq:SqL X.K H l (ss.map V.str))(h64:ss.length < 65536)
  (turn:∀z t,z∈ss→NhSG.mL X.prog X.w X.A.in1.in1 (.ref q) s (.str z t) (NhSG.jt z))
  (h:∀D,H D=none→Q (.ref D) (upd H D (.lst ((NhSG.k_ ss).map V.str)))):
  wpAny (model X.prog X.w) X.A (call (.builtin "sorted") [.ref l] [(Str.ofString "key",.ref q)]) (EP X pins σ Q) X.xe s:=by
 obtain⟨its,rv,pl,hz⟩:=I.list hq
 have hv:=wI rv
 have hlen:its.length=ss.length:=by have:=congrArg List.length hv;simpa using this
 refine NhSG.y_ (ys:=ss.map NhSG.jt) pl.isList (by simp[hlen]) (by omega) (fun i v y hv' hy'=>?_) fun D h' tk out c g1 g2 g3 g4=>?_
 ·rw[zP]at hy'
  obtain⟨z,hz1,rfl⟩:=Zab.mp hy'
  have e:(its.map NhSG.xM)[i]? =(ss.map some)[i]? :=by rw[hv]
  rw[zP,zP,hv',hz1]at e
  have e1:NhSG.xM v=some z:=by simpa using e
  unfold NhSG.xM at e1
  split at e1
  ·cases e1;exact turn _ _ (List.mem_of_getElem? hz1)
  ·cases e1
 ·have ot:=NhSG.Ck hv g3
  refine⟨.ref D,_,I.laid (t':=tk) g4 g2 (show ObjOk X.prog X.w _ _ _ (.lst ((NhSG.k_ ss).map V.str))from⟨?_,out.toList,c,wJ ot,by simpa using g1⟩),rfl,h D (I.hok.fresh g2)⟩
  rw[eM]
  have:(NhSG.k_ ss).length=ss.length:=(xP ss NhSG.vG).length_eq
  rw[this,sizeLine_eq]
  omega
end
theorem wK(h:z.length≤1000):z.length≤sizeLine:=by rw[sizeLine_eq];omega
end PL
namespace PL
open PySem L2 Nh
theorem qZ{pos:Pos}{a b:Int}{c cv:Value}(l:List Value)(h:TriplesOk l)(e:codeAmong pos (l++[rawInt a,rawInt b,c])=some cv):codeAmong pos l=some cv∨cv=c:=by
 fun_induction TriplesOk l with
 |case1=>
  simp only[Z8,codeAmong,rawInt]at e
  split at e
  ·cases e;exact .inr rfl
  ·cases e
 |case2 a' t b' u x eN ih=>
  simp only[Z9,codeAmong]at e ⊢
  split at e
  ·rename_i hc;rw[if_pos hc];exact .inl e
  ·rename_i hc;rw[if_neg hc];exact ih h e
 |case3 l h1 h2=>exact h.elim
section
variable {X:Cx} {pins:List (Addr×Obj)} {σ:L2.St} {H:Hp} {s:Shared}
theorem Cl{P c':Addr}{ps:Array Value}{a b:Int}{tk:Nat}(I:Inv X pins σ H s)(hT:H P=some (.tbl q))(hps:s.heap.get? P=some (tabObj ps))
  (hx:∀b o,b≠P→s.heap.get? b=some o→h'.get? b=some o) (hc:s.heap.objs.size≤c') (hr:h'.CodeRec (.ref c') q) (hP:h'.get? P=some (tabObj (ps++#[rawInt a,rawInt b,.ref c']))):
  Inv X pins σ (upd H c' (.own P)) {s with heap:=h',toks:=tk}:=by
 have hn:H c'=none:=I.hok.fresh hc
 have neP:∀b,H b=none→b≠P:=fun b n z=>by subst z;rw[hT]at n;cases n
 obtain⟨ps0,e0,t0,r0⟩:=I.hok P _ hT
 rw[hps]at e0
 cases e0
 refine I.un (h':=h') (t':=tk) ⟨fun b o e n _ _=>hx b o (neP b n) e,fun b o e n _ _=>⟨o.slots,hx b o (neP b n) e⟩,fun b o e n _=>?_,fun b o e _=>?_,fun b xs e=>?_,fun b o u e=>?_,fun b z e=>?_⟩ fun d o e=>?_
 ·rw[aC (gS (ma (fP e) hc))];exact n
 ·by_cases hb:b=P
  ·subst hb;exact⟨_,hP⟩
  ·exact⟨o,hx b o hb e⟩
 ·rw[aC (bD e hn)];exact e
 ·rw[aC (bD e hn)];exact e
 ·rw[aC (bD e hn)];exact e
 ·by_cases hd:d=c'
  ·subst hd
   rw[upd_same]at e
   cases e
   obtain⟨c2,oc,_,_,hc2,hoc,_⟩:=hr
   cases hc2
   exact⟨oc,hoc⟩
  ·rw[aC hd]at e
   by_cases hp:d=P
   ·subst hp
    rw[hT]at e
    cases e
    refine⟨_,hP,by simpa using TriplesOk_snoc a b (.ref c') _ t0,fun pos cv z=>?_⟩
    rcases qZ (a:=a) (b:=b) (c:=.ref c') ps.toList t0 (by simpa using z)with z |z
    ·obtain⟨c,ec,ho,c2,oc,vs,tq,hc2,hoc,hr2⟩:=r0 pos cv z
     subst ec
     cases hc2
     refine⟨c,rfl,by rw[aC (bD ho hn)];exact ho,c,oc,vs,tq,rfl,hx _ _ (fun z=>?_) hoc,hr2⟩
     subst z
     rw[hT]at ho
     cases ho
    ·subst z
     exact⟨c',rfl,upd_same,hr⟩
   ·refine(I.hok d o e).stay (fun b u hb q=>hx b u ?_ q) (fun b hb=>by rw[aC (bD hb hn)];exact hb) fun b xs hb=>by rw[aC (bD hb hn)];exact hb
    rcases hb with rfl |hb
    ·exact hp
    ·intro z
     subst z
     rw[hT]at hb
     cases hb
theorem LM{P:Addr}{ps:Array Value}(I:Inv X pins σ H s)(hps:s.heap.get? P=some (tabObj ps)):mainGlobals≠P∧s.heap.BuiltinsAt X.mg P:=by
 have hg:=I.mod.glob.keeps I.bk
 obtain⟨bm,ob,b1,b2,b3,b4,b5,b6⟩:=I.mod.bmain
 have b3':=I.bk _ _ b3
 refine⟨fun q=>?_,bm,ob,b1,b2,fun q=>?_,fun q=>?_,b3',b4,b5,b6⟩
 ·obtain⟨o,es,ep,e,hd,_⟩:=hg
  rw[q,hps]at e;cases e;cases hd
 ·obtain⟨o,es,ep,e,hd,_⟩:=hg
  rw[q,e]at b3';cases b3';rw[hd]at b6;cases b6
 ·rw[q,hps]at b3';cases b3';cases b4
end
section
variable {X:Cx} {e:Expr} {m:Bool} {f:ba} {p pos kp lp:Pos} {y:Str} {k:Nat} {p1 p2 p3 p4 tp:Pos} {x1:Nat} {params:Arguments} {scope:Scope} {c P:Addr}
theorem EA(hcode:X.env.code=.ref c) (hP:mh X.K P=some "in_told_order.<locals>.<lambda>") (hC:codeHdIn X.K c P=true) (hr:Room k X.A) (hg:Gl X "sorted") (hm:X.mg "sorted"=none) (hl:X.mg "len"=none) (ha:EX X e m f)
  (hq:X.env.qual++"<lambda>"=Str.ofString "in_told_order.<locals>.<lambda>") (hdef:defaultsOf params X.env=([],[]):=by rfl)
  (hbind:∀(name qual:Str) (pm cd ctv u:Value),bindArgs (PySem.W.kla_fn name qual params (.Tuple [.Call (.Name "len" p1) [.Name y p2] [] p3,.Name y p4] x1 tp) scope [] pm cd ctv) ⟨[u],[]⟩=pure [(y,u)]:=by intros;rfl)
  (sc1:scope.names.lookup y=some .local:=by rfl) (jf:scope.names.lookup (Str.ofString "len")=some .globalImplicit:=by rfl) (sc3:scope.isCoroutine=false:=by rfl) (sc4:scope.isGenerator=false:=by rfl) (sc5:scope.kind=.function:=by rfl)
  (sc6:∀x∈scope.names,x.2≠ .cell:=by decide) (sc7:∀x∈scope.names,x.2≠ .free:=by decide) (hdy:(y == ("__debug__":Str))=false:=by decide)
  (he:starEach [e] X.env=[(false,eval e X.env)]:=by rfl)
  (he':backTo pos (starEach [e] X.env)=(false,eval e X.env)::backTo pos (starEach [] X.env):=by rfl) (hpl:(backTo pos (starEach [e] X.env)).any (·.1)=false:=by rfl)
  (hall:(backToKw pos (keywordEach [⟨some "key",.Lambda params (.Tuple [.Call (.Name "len" p1) [.Name y p2] [] p3,.Name y p4] x1 tp) scope lp,kp⟩] X.env)).all (·.1.isSome)=true:=by rfl)
  (hkw:(backToKw pos (keywordEach [⟨some "key",.Lambda params (.Tuple [.Call (.Name "len" p1) [.Name y p2] [] p3,.Name y p4] x1 tp) scope lp,kp⟩] X.env)).any (·.1.isNone)=false:=by rfl)
  (hnm:(backToKw pos (keywordEach [⟨some "key",.Lambda params (.Tuple [.Call (.Name "len" p1) [.Name y p2] [] p3,.Name y p4] x1 tp) scope lp,kp⟩] X.env)).filterMap (·.1)=[Str.ofString "key"]:=by rfl):
  EX X (.Call (.Name "sorted" p) [e] [⟨some "key",.Lambda params (.Tuple [.Call (.Name "len" p1) [.Name y p2] [] p3,.Name y p4] x1 tp) scope lp,kp⟩] pos) m (uI f):=by
 intro pins s σ H Q I z
 obtain⟨B,E,xs,Xs,res,E',fr,cl,e0,q⟩:=z
 obtain⟨⟨r1,E1⟩,e1,e2⟩:=Za.mp e0
 simp only at e2
 split at e2
 ·rename_i ds ld
  obtain⟨ss,en,e3⟩:=Za.mp e2
  split at e3
  ·rename_i hc
   cases e3
   simp only[rC,decide_eq_true_eq,List.all_eq_true]at hc
   refine zz6 (jT I hg hm PyProof.Rows.boot_sorted ?_ (by decide) (by decide))
   refine PyProof.Rows.callWith_kw (dw (bU ha d0 he pos pins s σ H (fun vs H1=>∃p,vs=[.ref p]∧SqL X.K H1 p (ss.map V.str)∧∀H2,Same H1 H2→∀D,H2 D=none→Q (.ref D) (upd H2 D (.lst ((NhSG.k_ ss).map V.str)))) I ⟨B,E,xs,Xs,r1,_,fr,cl,e1,fun v1 H1 ⟨F,A,fr1⟩=>?_⟩) fun us s2 ⟨vs,H1,I1,r1,p0,ev,hq1,q1⟩=>?_) he' hpl hall hkw
   ·obtain⟨A',fr2⟩:=fr1.pop
    have r:=(fr1.look0 ld).1
    cases r with
    |lst h1 h2=>
     have:=pf h2 en
     subst this
     exact⟨_,rfl,h1,fun H2 g D hD=>q _ _ ⟨_,_,(fr2.grow g).newl (j5 _) hD⟩⟩
   ·subst ev
    cases r1 with
    |cons r rr=>
     cases rr
     cases r
     refine PyProof.Rows.kws_cons (PySem.W.kla_eval hdef ?_)
     have hT:H1 P=some (.tbl (Str.ofString "in_told_order.<locals>.<lambda>")):=I1.tab P _ hP
     obtain⟨ps,hps,ht,hit⟩:=I1.hok P _ hT
     obtain⟨hgP,hbA⟩:=LM I1 hps
     have hcl:closureFor scope X.env=pure []:=closureFor_none sc7
     have C:=PySem.W.codeHd_of_K I1.kIn hC
     have hroom:X.A.in1.in1.depth < recursionLimit:=by have:=hr.dp;show X.A.depth < recursionLimit;omega
     cases hca:codeAmong lp ps.toList with
     |none=>
      refine PySem.W.kla_makeFunction hcl I1.ok.glob (I1.mod.glob.keeps I1.bk) hcode C hps ht hca hgP hbA fun c' ctv h' tk hx hge hlt hrec htb=>?_
      rw[hq]at hrec
      have I2:=Cl (tk:=tk) I1 hT hps (fun b o hb e=>hx b o hb e) hge hrec htb
      have g:Same H1 (upd H1 c' (.own P)):=gW (I1.hok.fresh hge) _
      have I3:=I2.kept (t':=tk) (fun b o e=>gD (PySem.W.kla_obj "<lambda>" (X.env.qual++"<lambda>") params (.Tuple [.Call (.Name "len" p1) [.Name y p2] [] p3,.Name y p4] x1 tp) scope [] ((X.mg "__name__").getD .none) c' ctv) e)
      refine PyProof.Rows.kws_nil ?_
      rw[hnm]
      refine sq I3 (g.seq hq1) hc.1 (fun z t hz=>?_) (q1 _ g)
      exact NhSG.wH (LL I3 hl) hroom (mf _ rfl) (by rw[hq];exact hrec.keeps fun b o e=>gD _ e) (wK (hc.2 z hz)) (hbind _ _ _ _ _ _) sc1 jf sc3 sc4 sc5 sc6 hdy
     |some cv=>
      obtain⟨c',rfl,ho,hrec⟩:=hit lp cv hca
      refine PySem.W.kla_makeFunctionHit hcl I1.ok.glob (I1.mod.glob.keeps I1.bk) hcode C hps ht hca hbA fun ctv h' tk hx hsz=>?_
      have I3:=I1.kept (t':=tk) (fun b o e=>gD (PySem.W.kla_obj "<lambda>" (X.env.qual++"<lambda>") params (.Tuple [.Call (.Name "len" p1) [.Name y p2] [] p3,.Name y p4] x1 tp) scope [] ((X.mg "__name__").getD .none) c' ctv) (hx b o e))
      refine PyProof.Rows.kws_nil ?_
      rw[hnm]
      refine sq I3 hq1 hc.1 (fun z t hz=>?_) (q1 _ (Same.refl _))
      exact NhSG.wH (LL I3 hl) hroom (mf _ rfl) (by rw[hq];exact hrec.keeps fun b o e=>gD _ (hx b o e)) (wK (hc.2 z hz)) (hbind _ _ _ _ _ _) sc1 jf sc3 sc4 sc5 sc6 hdy
  ·cases e3
 ·cases e2
end
structure DefT (K:Frag) (mg:Str→Option Value) (x:Str) (st:Stmt) (ps:List Str) (c P:Addr):Prop where
 ex:∃(f:Addr) (oc:Value) (od:Option Addr) (kV doc pm:Value) (an:Option Addr) (ct:Value) (osl:Array (Option Value)),
  K.lookup f=some ⟨oc,od,.func (fnOf x x (de st) (bE st) (ak st) .none kV doc pm an (.ref c) ct),osl⟩∧codeIn K (.ref c) x=true∧keepIn K (.ref f)=true∧mg x=some (.ref f)∧
   Binds K (fnOf x x (de st) (bE st) (ak st) .none kV doc pm an (.ref c) ct) ps []
 hd:codeHdIn K c P=true
 tp:mh K P=some (x++".<locals>."++"<lambda>")
theorem M3{w:World}{K:Frag}{mg:Str→Option Value}{base:Heap}{N:List Str}{a:Nat}{g:cI}{c T:Addr}(D:DefT K mg x st ps c T)(S:FnScope N ps (ak st))(hpa:ps.length=a)(hNn:N.length=n)(hps:a≤n)
  (hbody:∀(f:Addr) (A:Around) (outer:List Env) (s:Shared) (H:Hp) (E:XK),Room k (A.deeper (PyProof.Rows.envOfC x (ak st) s.heap.objs.size f (.ref c)))→
   vF (je xK P w K mg base N x (ak st) f (.ref c) A outer s H E).nox (bE st) g):Own P w K mg base (k+1) x ps (gw K (gy a n g)):=by
 subst hpa hNn
 obtain⟨f,oc,od,kV,doc,pm,an,ct,osl,lk,hcd,kp,hm,hb⟩:=D.ex
 refine⟨f,_,Da lk hcd S (fun vs H Q E h=>?_) (fun A outer s H vs Q E hr h=>?_),hb,hm,kp⟩
 ·obtain⟨ds,r,e,rp,_⟩:=h
  unfold gy at e
  split at e
  ·rename_i hl
   rw[rp.len];exact hl
  ·cases e
 obtain⟨ds,r,e,rp,q⟩:=h
 unfold gy at e
 split at e
 ·rename_i hl
  refine⟨_,(hbody f A outer s H E hr).nox,?_⟩
  obtain⟨⟨E',fl⟩,e1,e⟩:=Za.mp e
  refine⟨H,dW N.length ds,[],[],E',fl,⟨H,[],ml rp (by omega)⟩,rfl,e1,?_⟩
  cases fl with
  |nx=>
   cases e
   rintro σ' H' ⟨F',A',fr'⟩
   exact q _ _ (fr'.bf.trans fr'.fh) .non
  |bk=>cases e
  |ct=>cases e
  |rt r'=>
   rintro σ' v H' ⟨F',A',fr'⟩
   obtain⟨s1,s2⟩:=fr'.resultO e
   exact q v H' s1 s2
 ·cases e
theorem EB{K:Frag}{n:Str}{f c P:Addr}{occ:Value}{od odc:Option Addr}{sl slc:Array (Option Value)}{vs:Array Value}(a:nsIn K mainGlobals n=some (some (.ref f)))(l:K.lookup f=some ⟨oc,od,.func fd,sl⟩)(hc:fd.code=.ref c)
  (lc:K.lookup c=some ⟨occ,odc,.fields vs,slc⟩) (hv:(vs[11]? :Option Value)=some (.ref P)):zQ K n=some P:=by
 unfold zQ
 rw[a]
 simp only[l,hc,lc,hv]
def H0(K:Frag)(n:Str)(o:Option Addr):Prop:=zQ K n=o∧∀P,o=some P→∃c,codeHdIn K c P=true
theorem EC{K:Frag}{n:Str}{f c P:Addr}{occ:Value}{od odc:Option Addr}{sl slc:Array (Option Value)}{vs:Array Value}(a:nsIn K mainGlobals n=some (some (.ref f)))(l:K.lookup f=some ⟨oc,od,.func fd,sl⟩)(hc:fd.code=.ref c)
  (lc:K.lookup c=some ⟨occ,odc,.fields vs,slc⟩) (hv:(vs[11]? :Option Value)=some (.ref P)) (hd:codeHdIn K c P=true):H0 K n (some P):=⟨EB a l hc lc hv,fun _ e=>by cases e;exact⟨c,hd⟩⟩
def iF(K:Frag):List (Str×Str)→List (Option Addr)→Prop
 |[],[]=>True
 |n::r,o::os=>H0 K n.1 o∧iF K r os
 |_,_=>False
def ED(b:Addr):List (Str×Str)→List (Option Addr)→Option Str
 |n::r,o::os=>if o=some b then some n.2 else ED b r os
 |_,_=>none
theorem uJ{K:Frag}{b:Addr}:∀{l:List (Str×Str)} {os:List (Option Addr)},iF K l os→FN K b l=ED b l os
 |[],[],_=>rfl
 |n::r,o::os,h=>by
  unfold FN ED
  rw[h.1.1,uJ h.2]
theorem wL{b:Addr}:∀{l:List (Str×Str)} {os:List (Option Addr)},ED b l os=some q→some b∈os
 |n::r,o::os,h=>by
  unfold ED at h
  split at h
  ·rename_i e;rw[e];exact gE ..
  ·exact gQ _ (wL h)
 |[],_,h=>by cases h
 |_::_,[],h=>by cases h
theorem EE{K:Frag}{os:List (Option Addr)}(T:iF K rD os)(ht:∀b,some b∈os→h.get? b=some (tabObj #[])∧(∃c,PySem.W.CodeHd h c b)∧K.lookup b=none):Au K h:=fun b q e=>by
 unfold mh at e
 rw[uJ T]at e
 exact ht b (wL e)
def qa(K:Frag)(h:Heap):List (Option Addr)→Prop
 |[]=>True
 |none::r=>qa K h r
 |some P::r=>(h.get? P=some (tabObj #[])∧K.lookup P=none)∧qa K h r
theorem lM{K:Frag}{b:Addr}:∀{l:List (Str×Str)} {os:List (Option Addr)},iF K l os→qa K h os→some b∈os→h.get? b=some (tabObj #[])∧(∃c,codeHdIn K c b=true)∧K.lookup b=none
 |_,[],_,_,m=>by cases m
 |[],_::_,T,_,_=>T.elim
 |_::l,none::r,T,t,m=>by
  rcases Zag.mp m with e |e
  ·cases e
  ·exact lM (os:=r) T.2 t e
 |_::l,some P::r,T,t,m=>by
  rcases Zag.mp m with e |e
  ·cases e;exact⟨t.1.1,T.1.2 _ rfl,t.1.2⟩
  ·exact lM T.2 t.2 e
theorem G8{K:Frag}{os:List (Option Addr)}(X:K.In h)(T:iF K rD os)(t:qa K h os):Au K h:=EE T fun b m=>
 let ⟨t1,⟨c,t2⟩,t3⟩:=lM T t m
 ⟨t1,⟨c,PySem.W.codeHd_of_K X t2⟩,t3⟩
end PL
namespace PL
open PySem PySem.Spec PyProof.Rows L2 Nh
section
variable {X:Cx} {al mk:Bool} {a b:Expr} {op:CmpOp} {r q:fO} {bd el:List Stmt} {p pos:Pos} {st:Stmt}
theorem EF(h:RE X al a r)(hm:behindInMarks op b=false:=by first |exact CS _ (by decide) (by decide) |rfl):RX X mk al (.If (.Compare a [op] [b] p) bd el pos) r:=fun pins s σ H B E n E' I fr ee k=>
 wpAny_If (wpAny_isTrue_Compare1 (dw (h pins s σ H B E n E' I fr ee fun pp q σ' C H' z f=>(k pp q σ' C H' z f).2) fun _ _ z=>z.elim) hm)
theorem EG(h1:RX X mk al st r)(h2:RX X mk al st q):RX X mk al st (pj r q):=fun pins s σ H B E n E' I fr e k=>by
 unfold pj at e
 split at e
 ·rename_i x ex
  cases e
  exact h1 pins s σ H B E n E' I fr ex k
 ·exact h2 pins s σ H B E n E' I fr e k
end
end PL
namespace PL
open PySem L2 Nh
def EH:Expr→Bool
 | .Starred .. =>false
 |_=>true
theorem G9{es:List Expr}{env:Env}(h:EH e=true):starEach (e::es) env=(false,eval e env)::starEach es env:=by
 cases e <;> first |rfl |cases h
inductive DL (X:Cx):List Expr→Bool→kX→Prop
 |nil:DL X [] false cr
 |cons {e:Expr} {es:List Expr} {m1 m2:Bool} {f:ba} {d:kX}:EX X e m1 f→EH e=true→DL X es m2 d→DL X (e::es) (m1||m2) (aw f d)
section
variable {X:Cx} {es:List Expr} {m:Bool} {d:kX} {pos:Pos}
theorem DL.dx(h:DL X es m d):DX X es m d:=by
 induction h with
 |nil=>exact DB
 |cons a n _ ih=>exact Ak a ih (G9 n)
theorem dg(h:DL X es m d):EX X (.List es pos) m (cK d):=DC h.dx
theorem qc{x1}(h:DL X es m d):EX X (.Tuple es x1 pos) m (tE d):=Jg h.dx
end
def ka:List Nat→Expr→Expr
 |[],e=>e
 |k::r,e=>match e with
  | .Call _ as _ _=>ka r (as.getD k e)
  | .BinOp a _ b _=>if k=0 then ka r a else ka r b
  | .Subscript a b _=>if k=0 then ka r a else ka r b
  | .Compare a _ cs _=>if k=0 then ka r a else ka r (cs.getD (k - 1) e)
  | .BoolOp _ vs _=>ka r (vs.getD k e)
  | .UnaryOp _ a _=>ka r a
  | .List es _=>ka r (es.getD k e)
  | .Tuple es _ _=>ka r (es.getD k e)
  | .ListComp _ (c::_) _ _=>ka r c.iter
  |e=>e
def kb(v:Expr):List Nat→Expr→Expr
 |[],_=>v
 |k::r,e=>match e with
  | .Call f as ks p=> .Call f (as.set k (kb v r (as.getD k e))) ks p
  | .BinOp a o b p=>if k=0 then .BinOp (kb v r a) o b p else .BinOp a o (kb v r b) p
  | .Subscript a b p=>if k=0 then .Subscript (kb v r a) b p else .Subscript a (kb v r b) p
  | .Compare a os cs p=>if k=0 then .Compare (kb v r a) os cs p else .Compare a os (cs.set (k - 1) (kb v r (cs.getD (k - 1) e))) p
  | .BoolOp o vs p=> .BoolOp o (vs.set k (kb v r (vs.getD k e))) p
  | .UnaryOp o a p=> .UnaryOp o (kb v r a) p
  | .List es p=> .List (es.set k (kb v r (es.getD k e))) p
  | .Tuple es n p=> .Tuple (es.set k (kb v r (es.getD k e))) n p
  | .ListComp el (c::cs) sc p=> .ListComp el ({c with iter:=kb v r c.iter}::cs) sc p
  |e=>e
def q9:List Nat→List Stmt→Expr
 |[],_=> .Constant .none 0 ⟨0,0,0,0⟩
 |i::r,b=>match b[i]? with
  |some (.Assign _ e _)=>ka r e
  |some (.Return (some e) _)=>ka r e
  |some (.Expr e _)=>ka r e
  |some (.If t bb _ _)=>match r with
   | 0::q=>ka q t
   | 1::q=>q9 q bb
   |_=>t
  |some (.For t it bb _ _)=>match r with
   | 0::q=>ka q it
   | 1::q=>q9 q bb
   |_=>t
  |_=> .Constant .none 0 ⟨0,0,0,0⟩
def Cn(v:Expr):List Nat→List Stmt→List Stmt
 |[],b=>b
 |i::r,b=>match b[i]? with
  |some (.Assign t e p)=>b.set i (.Assign t (kb v r e) p)
  |some (.Return (some e) p)=>b.set i (.Return (some (kb v r e)) p)
  |some (.Expr e p)=>b.set i (.Expr (kb v r e) p)
  |some (.If t bb o p)=>match r with
   | 0::q=>b.set i (.If (kb v q t) bb o p)
   | 1::q=>b.set i (.If t (Cn v q bb) o p)
   |_=>b
  |some (.For t it bb o p)=>match r with
   | 0::q=>b.set i (.For t (kb v q it) bb o p)
   | 1::q=>b.set i (.For t it (Cn v q bb) o p)
   |_=>b
  |_=>b
def qX:Expr→List Expr
 | .List es _=>es
 | .Tuple es _ _=>es
 |_=>[]
def AK(es:List Expr):Expr→Expr
 | .List _ p=> .List es p
 | .Tuple _ n p=> .Tuple es n p
 |e=>e
structure BodyOk (X:Cx) (body:List Stmt) (g:cI):Prop where
 of:vF X body g
theorem uK{g:cI}(path:List Nat){d:kX}(hP:∀Y:Cx,DL Y (qX (q9 path body)) m d)(key:∀es,(∀Y:Cx,DL Y es m d)→BodyOk X (Cn (AK es (q9 path body)) path body) g)(hb:Cn (AK (qX (q9 path body)) (q9 path body)) path body=body:=by rfl):BodyOk X body g:=by
 have:=key _ hP
 rw[hb]at this
 exact this
theorem pq{g:cI}(path:List Nat){d:kX}(hP:DL X (qX (q9 path body)) m d)(key:∀es,DL X es m d→BodyOk X (Cn (AK es (q9 path body)) path body) g)(hb:Cn (AK (qX (q9 path body)) (q9 path body)) path body=body:=by rfl):BodyOk X body g:=by
 have:=key _ hP
 rw[hb]at this
 exact this
end PL
namespace PL
open PySem L2 Nh
section
variable {X:Cx}
theorem JT{h₀:ExceptHandler}{hs:List ExceptHandler}{pos:Pos}{g:cI}(hx:X.xe=fun _ _=>False)(h:vF X body g):SX X (.Try body (h₀::hs) [] [] pos) g:=by
 intro pins s σ H D I hw
 have q:=h pins s σ H D I hw
 rw[hx]at q
 refine wpAny_Try_except (zz2 q (fun f s1 z=>?_) fun _ _ z=>z.elim)
 cases f with
 |next=>exact wpAny_execs_nil z
 |brk=>exact z
 |cont=>exact z
 |ret u=>exact z
end
end PL
namespace NH
variable {α:Type} [DecidableEq α]
end NH
namespace NH
def dC(w:List Nat):Nat→Nat
 | 0=>0
 |n+1=>dC w n+if 97+n∈w then 2 ^ n else 0
theorem sr(w:List Nat):∀n,dC w n < 2 ^ n
 | 0=>by simp[dC]
 |n+1=>by
  have:=sr w n
  rw[dC,Nat.pow_succ]
  split <;> omega
theorem fS(w:List Nat):∀n i,(dC w n).testBit i=(decide (i < n)&&decide (97+i∈w))
 | 0,i=>by simp[dC]
 |n+1,i=>by
  have ih:=fS w n i
  have lt:=sr w n
  rw[dC]
  by_cases h:97+n∈w
  ·rw[if_pos h,Nat.add_comm]
   by_cases e:i=n
   ·subst e
    rw[Nat.testBit_two_pow_add_eq,ih]
    simp[h]
   ·by_cases l:i < n
    ·rw[Nat.testBit_two_pow_add_gt l,ih]
     simp[l,show i < n+1 by omega]
    ·have big:2 ^ n+dC w n < 2 ^ i:=by
      have:2 ^ (n+1)≤2 ^ i:=Nat.pow_le_pow_right (by decide) (by omega)
      rw[Nat.pow_succ]at this
      omega
     rw[Nat.testBit_lt_two_pow big]
     simp[show ¬i < n+1 by omega]
  ·rw[if_neg h,Nat.add_zero,ih]
   by_cases e:i=n
   ·subst e;simp[h]
   ·by_cases l:i < n
    ·simp[l,show i < n+1 by omega]
    ·simp[l,show ¬i < n+1 by omega]
def bM(w:List Nat):Nat:=dC w 26
def q_(w:List Nat):Prop:=∀a∈w,97≤a∧a < 97+26
theorem Co{a b:List Nat}(ha:q_ a):bM a &&& bM b=bM a↔∀x∈a,x∈b:=by
 unfold bM
 constructor
 ·intro h x hx
  have l:=ha x hx
  have:=congrArg (fun n=>n.testBit (x - 97)) h
  simp only[Nat.testBit_and,fS,show 97+(x - 97)=x by omega,show x - 97 < 26 by omega,hx]at this
  simpa using this
 ·intro h
  refine Nat.eq_of_testBit_eq fun i=>?_
  rw[Nat.testBit_and,fS,fS]
  by_cases m:97+i∈a
  ·simp[m,h _ m]
  ·simp[m]
theorem Cp{a b:List Nat}(ha:q_ a):bM a &&& bM b=0↔∀x∈a,x∉b:=by
 unfold bM
 constructor
 ·intro h x hx hb
  have l:=ha x hx
  have:=congrArg (fun n=>n.testBit (x - 97)) h
  simp only[Nat.testBit_and,fS,show 97+(x - 97)=x by omega,show x - 97 < 26 by omega,hx,hb]at this
  simp at this
 ·intro h
  refine Nat.eq_of_testBit_eq fun i=>?_
  rw[Nat.testBit_and,fS,fS,Nat.zero_testBit]
  by_cases m:97+i∈a
  ·simp[m,h _ m]
  ·simp[m]
end NH
namespace NhFam
abbrev Tx:=List Nat
def Srt(w:Tx):Prop:=w.Pairwise (· < ·)
def le(v w:Tx):Prop:=∀x∈v,x∈w
instance (v w:Tx):Decidable (le v w):=inferInstanceAs (Decidable (∀x∈v,x∈w))
theorem le.refl(v:Tx):le v v:=fun _ h=>h
theorem le.trans{u v w:Tx}(a:le u v)(b:le v w):le u w:=fun x h=>b x (a x h)
def Sub(U w:Tx):Prop:=Srt w∧le w U
theorem dJ:∀{w v:Tx},Srt v→Srt w→le v w→v.Sublist w
 |[],v,_,_,h=>by
  cases v with
  |nil=>exact .slnil
  |cons x v=>cases h x (gE ..)
 |y::w,v,hv,hw,h=>by
  cases v with
  |nil=>exact List.nil_sublist _
  |cons x v=>
   have hw':=List.pairwise_cons.mp hw
   have hv':=List.pairwise_cons.mp hv
   by_cases e:x=y
   ·subst e
    refine(dJ hv'.2 hw'.2 fun z hz=>?_).cons_cons _
    rcases Zag.mp (h z (gQ _ hz))with q |q
    ·have:=hv'.1 z hz;omega
    ·exact q
   ·have hx:x∈w:=(Zag.mp (h x (gE ..))).resolve_left e
    have lt:=hw'.1 x hx
    refine(dJ hv hw'.2 fun z hz=>?_).cons _
    rcases Zag.mp (h z hz)with q |q
    ·subst q
     rcases Zag.mp hz with q |q
     ·omega
     ·have:=hv'.1 z q;omega
    ·exact q
theorem Srt.ext{v w:Tx}(hv:Srt v)(hw:Srt w)(a:le v w)(b:le w v):v=w:=
 (dJ hv hw a).eq_of_length (Nat.le_antisymm (dJ hv hw a).length_le (dJ hw hv b).length_le)
theorem EI{v w:Tx}(hv:Srt v)(hw:Srt w)(a:le v w)(n:v≠w):v.length < w.length:=by
 have s:=dJ hv hw a
 rcases Nat.lt_or_ge v.length w.length with h |h
 ·exact h
 ·exact absurd (s.eq_of_length (Nat.le_antisymm s.length_le h)) n
def key(w:Tx):NhSG.Ky:=((w.length:Int),w)
def jd(v w:Tx):Prop:=NhSG.gJ (key v) (key w)=true
theorem lN{v w:Tx}(h:v.length < w.length):jd v w:=NhSG.ltKy_iff.mpr (.inl (by simp only[key];omega))
theorem fT(v:Tx):¬jd v v:=fun h=>by
 have:=(NhSG.f_ default).irrefl (key v)
 unfold jd at h
 rw[show NhSG.gJ (key v) (key v)=false from this]at h
 cases h
theorem nO{v w:Tx}(h1:¬jd v w)(h2:¬jd w v):v=w:=by
 have h:=(NhSG.f_ default).total (key v) (key w) (by simpa[jd]using h1) (by simpa[jd]using h2)
 exact congrArg Prod.snd h
theorem su{u v w:Tx}(a:jd u v)(b:jd v w):jd u w:=(NhSG.f_ default).trans _ _ _ a b
theorem gU{v w:Tx}(a:jd v w):¬jd w v:=fun b=>fT v (su a b)
def up(F:List Tx)(w:Tx):Prop:=∃v∈F,le v w
def Min(U:Tx)(f:Tx→Prop)(w:Tx):Prop:=Sub U w∧f w∧∀v,Sub U v→f v→le v w→v=w
structure Told (U:Tx) (L:List Tx) (f:Tx→Prop):Prop where
 srt:L.Pairwise jd
 mem:∀w,w∈L↔Min U f w
def G_(U:Tx)(f:Tx→Prop):Prop:=∀v w,Sub U v→Sub U w→le v w→f v→f w
theorem lP{U:Tx}{f:Tx→Prop}:∀(n:Nat) (w:Tx),w.length≤n→Sub U w→f w→∃v,Min U f v∧le v w
 |n,w,hn,hw,hf=>by
  by_cases h:∀v,Sub U v→f v→le v w→v=w
  ·exact⟨w,⟨hw,hf,h⟩,le.refl w⟩
  ·obtain⟨v,h⟩:=Classical.not_forall.mp h
   obtain⟨v1,h⟩:=Classical.not_imp.mp h
   obtain⟨v2,h⟩:=Classical.not_imp.mp h
   obtain⟨v3,v4⟩:=Classical.not_imp.mp h
   have:=EI v1.1 hw.1 v3 v4
   cases n with
   |zero=>omega
   |succ n=>
    obtain⟨u,a,b⟩:=lP n v (by omega) v1 v2
    exact⟨u,a,b.trans v3⟩
theorem Told.sub{U:Tx}{L:List Tx}{f:Tx→Prop}(h:Told U L f):∀w∈L,Sub U w:=fun w hw=>((h.mem w).mp hw).1
theorem Told.up_iff{U:Tx}{L:List Tx}{f:Tx→Prop}(h:Told U L f)(m:G_ U f){w:Tx}(hw:Sub U w):up L w↔f w:=by
 constructor
 ·rintro⟨v,hv,l⟩
  have:=(h.mem v).mp hv
  exact m v w this.1 hw l this.2.1
 ·intro hf
  obtain⟨v,a,b⟩:=lP w.length w (fz _) hw hf
  exact⟨v,(h.mem v).mpr a,b⟩
theorem Min.congr{U:Tx}{f g:Tx→Prop}(h:∀w,Sub U w→(f w↔g w)){w:Tx}:Min U f w↔Min U g w:=by
 constructor
 ·rintro⟨a,b,c⟩;exact⟨a,(h w a).mp b,fun v v1 v2 v3=>c v v1 ((h v v1).mpr v2) v3⟩
 ·rintro⟨a,b,c⟩;exact⟨a,(h w a).mpr b,fun v v1 v2 v3=>c v v1 ((h v v1).mp v2) v3⟩
theorem Told.congr{U:Tx}{L:List Tx}{f g:Tx→Prop}(a:Told U L f)(h:∀w,Sub U w→(f w↔g w)):Told U L g:=⟨a.srt,fun w=>(a.mem w).trans (Min.congr h)⟩
theorem kO{L:List Tx}(h:L.Pairwise jd):L.Nodup:=h.imp fun {a b} h e=>by subst e;exact fT a h
theorem EJ{L L':List Tx}(a:L.Pairwise jd)(b:L'.Pairwise jd)(h:∀w,w∈L↔w∈L'):L=L':=
 ((List.perm_ext_iff_of_nodup (kO a) (kO b)).mpr h).eq_of_pairwise (fun x y _ _ p q=>absurd q (gU p)) a b
theorem Told.uniq{U:Tx}{L L':List Tx}{f g:Tx→Prop}(a:Told U L f)(b:Told U L' g)(h:∀w,Sub U w→(f w↔g w)):L=L':=
 EJ a.srt b.srt fun w=>(a.mem w).trans ((Min.congr h).trans (b.mem w).symm)
theorem Ha(U:Tx)(F:List Tx):G_ U (up F):=fun v w _ _ l ⟨u,hu,h⟩=>⟨u,hu,h.trans l⟩
theorem uL{U:Tx}{F:List Tx}(hF:∀v∈F,Sub U v){w:Tx}:Min U (up F) w↔w∈F∧∀v∈F,le v w→v=w:=by
 constructor
 ·rintro⟨a,⟨v,hv,l⟩,c⟩
  have e:=c v (hF v hv) ⟨v,hv,le.refl v⟩ l
  subst e
  exact⟨hv,fun u hu l=>c u (hF u hu) ⟨u,hu,le.refl u⟩ l⟩
 ·rintro⟨a,b⟩
  refine⟨hF w a,⟨w,a,le.refl w⟩,fun v hv ⟨u,hu,l⟩ lv=>?_⟩
  have e:=b u hu (l.trans lv)
  subst e
  exact hv.1.ext (hF u hu).1 lv l
def cf(K:List Tx):List Tx→List Tx
 |[]=>K
 |w::r=>if K.any (fun k=>decide (le k w))then cf K r else cf (K++[w]) r
theorem ju:∀(S K Pre:List Tx),(∀v∈Pre++S,Srt v)→(∀v∈Pre,∃k∈K,le k v)→(∀k∈K,k∈Pre)→(∀v∈Pre,∀w∈S,¬jd w v)→S.Pairwise (fun a b=>¬jd b a)→
  (∀k∈K,∀v∈Pre,le v k→v=k)→K.Pairwise jd→(cf K S).Pairwise jd∧∀w,w∈cf K S↔w∈Pre++S∧∀v∈Pre++S,le v w→v=w
 |[],K,Pre,hs,h1,h2,h3,h4,h5,h6=>by
  refine⟨h6,fun w=>?_⟩
  simp only[cf,oR]
  refine⟨fun hw=>⟨h2 w hw,h5 w hw⟩,fun⟨a,b⟩=>?_⟩
  obtain⟨k,hk,l⟩:=h1 w a
  rw[←b k (h2 k hk) l]
  exact hk
 |w::S,K,Pre,hs,h1,h2,h3,h4,h5,h6=>by
  have e:Pre++w::S=(Pre++[w])++S:=by simp
  have h4':=List.pairwise_cons.mp h4
  have sw:Srt w:=hs w (by simp)
  have back:∀k∈K,le w k→w=k:=fun k hk l=>Classical.byContradiction fun n=>h3 k (h2 k hk) w (by simp) (lN (EI sw (hs k (by simp[h2 k hk])) l n))
  have o3:∀v∈Pre++[w],∀u∈S,¬jd u v:=fun v hv u hu=>by
   rcases Zah.mp hv with q |q
   ·exact h3 v q u (gQ _ hu)
   ·rw[Zaf.mp q];exact h4'.1 u hu
  rw[e]at hs ⊢
  by_cases h:K.any (fun k=>decide (le k w))=true
  ·rw[cf,if_pos h]
   obtain⟨k0,hk0,l0⟩:=List.any_eq_true.mp h
   refine ju S K (Pre++[w]) hs (fun v hv=>?_) (fun k hk=>by simp[h2 k hk]) o3 h4'.2 (fun k hk v hv l=>?_) h6
   ·rcases Zah.mp hv with q |q
    ·exact h1 v q
    ·rw[Zaf.mp q];exact⟨k0,hk0,zz5 l0⟩
   ·rcases Zah.mp hv with q |q
    ·exact h5 k hk v q l
    ·rw[Zaf.mp q]at l ⊢;exact back k hk l
  ·rw[cf,if_neg h]
   have no:∀k∈K,¬le k w:=fun k hk l=>h (List.any_eq_true.mpr ⟨k,hk,zz4 l⟩)
   refine ju S (K++[w]) (Pre++[w]) hs (fun v hv=>?_) (fun k hk=>?_) o3 h4'.2 (fun k hk v hv l=>?_) ?_
   ·rcases Zah.mp hv with q |q
    ·obtain⟨k,hk,l⟩:=h1 v q;exact⟨k,by simp[hk],l⟩
    ·rw[Zaf.mp q];exact⟨w,by simp,le.refl w⟩
   ·rcases Zah.mp hk with q |q
    ·simp[h2 k q]
    ·simp[Zaf.mp q]
   ·rcases Zah.mp hk with p |p <;> rcases Zah.mp hv with q |q
    ·exact h5 k p v q l
    ·rw[Zaf.mp q]at l ⊢;exact back k p l
    ·rw[Zaf.mp p]at l ⊢
     obtain⟨k',hk',l'⟩:=h1 v q
     exact absurd (l'.trans l) (no k' hk')
    ·rw[Zaf.mp p,Zaf.mp q]
   ·refine List.pairwise_append.mpr ⟨h6,List.pairwise_singleton _ _,fun k hk u hu=>?_⟩
    rw[Zaf.mp hu]
    refine Classical.byContradiction fun n=>no k hk ?_
    rw[nO n (h3 k (h2 k hk) w (by simp))]
    exact le.refl w
def hJ(F:List Tx):List Tx:=F.mergeSort fun a b=> !NhSG.gJ (key b) (key a)
theorem sortT_mem{F:List Tx}{w:Tx}:w∈hJ F↔w∈F:=(xP F _).mem_iff
theorem nP(F:List Tx):(hJ F).Pairwise fun a b=>¬jd b a:=by
 have h:=List.pairwise_mergeSort (le:=fun a b=> !NhSG.gJ (key b) (key a)) (fun a b c h1 h2=>by
  have h1':¬jd b a:=by simpa[jd]using h1
  have h2':¬jd c b:=by simpa[jd]using h2
  have:¬jd c a:=fun z=>by
   by_cases q:jd a b
   ·exact h2' (su z q)
   ·rw[nO q h1']at z;exact h2' z
  simpa[jd]using this) (fun a b=>by
  by_cases q:NhSG.gJ (key b) (key a)=true
  ·have:¬jd a b:=gU q
   have:NhSG.gJ (key a) (key b)=false:=by simpa[jd]using this
   simp[this]
  ·simp[Bool.not_eq_true _▸q]) F
 exact h.imp fun {a b} h=>by simpa[jd]using h
def aA(F:List Tx):List Tx:=cf [] (hJ F)
theorem cS{U:Tx}{F:List Tx}(hF:∀v∈F,Sub U v):Told U (aA F) (up F):=by
 obtain⟨a,b⟩:=ju (hJ F) [] [] (fun v hv=>(hF v (sortT_mem.mp (by simpa using hv))).1) (fun v hv=>by cases hv) (fun v hv=>by cases hv) (fun v hv=>by cases hv) (nP F) (fun v hv=>by cases hv) .nil
 refine⟨a,fun w=>(b w).trans ?_⟩
 rw[uL hF]
 simp only[Z8,sortT_mem]
def comp(U w:Tx):Tx:=U.filter fun x=> !decide (x∈w)
theorem comp_mem{U w:Tx}{x:Nat}:x∈comp U w↔x∈U∧x∉w:=by simp[comp]
def LN(U:Tx)(f:Tx→Prop)(w:Tx):Prop:=¬f (comp U w)
def i8(F:List Tx)(w:Tx):Prop:=∀v∈F,∃x∈v,x∈w
theorem sx{U:Tx}{F:List Tx}(hF:∀v∈F,Sub U v){w:Tx}:i8 F w↔LN U (up F) w:=by
 constructor
 ·rintro h ⟨v,hv,l⟩
  obtain⟨x,hx,hw⟩:=h v hv
  exact(comp_mem.mp (l x hx)).2 hw
 ·intro h v hv
  refine Classical.byContradiction fun n=>h ⟨v,hv,fun x hx=>comp_mem.mpr ⟨(hF v hv).2 x hx,fun z=>n ⟨x,hx,z⟩⟩⟩
theorem zA{U V:Tx}{f:Tx→Prop}{L:List Tx}(hU:Srt U)(hV:Srt V)(l:le V U)(m:G_ U f)(h:∀w,Sub U w→f w→f (w.filter fun x=>decide (x∈V)))(t:Told V L f):Told U L f:=by
 refine⟨t.srt,fun w=>(t.mem w).trans ?_⟩
 have up':∀{w},Sub V w→Sub U w:=fun a=>⟨a.1,a.2.trans l⟩
 have cut:∀{w},Sub U w→Sub V (w.filter fun x=>decide (x∈V)):=fun a=>⟨a.1.filter _,fun x hx=>by simpa using(List.mem_filter.mp hx).2⟩
 have cl:∀w:Tx,le (w.filter fun x=>decide (x∈V)) w:=fun w x hx=>(List.mem_filter.mp hx).1
 constructor
 ·rintro⟨a,b,c⟩
  refine⟨up' a,b,fun v v1 v2 v3=>?_⟩
  have e:=c _ (cut v1) (h v v1 v2) ((cl v).trans v3)
  refine v1.1.ext a.1 v3 ?_
  rw[←e]
  exact cl v
 ·rintro⟨a,b,c⟩
  have e:=c _ (up' (cut a)) (h w a b) (cl w)
  rw[←e]
  refine⟨cut a,h w a b,fun v v1 v2 v3=>?_⟩
  rw[e]at v3 ⊢
  exact c v (up' v1) v2 v3
end NhFam
namespace NhFam
def oZ(w:Tx):List Tx:=w.foldl (fun acc a=>acc++acc.map (· ++[a])) [[]]
theorem wM:∀(V:Tx) (acc:List Tx) (w:Tx),w∈V.foldl (fun acc a=>acc++acc.map (· ++[a])) acc↔∃u∈acc,∃t,t.Sublist V∧w=u++t
 |[],acc,w=>by
  constructor
  ·intro h;exact⟨w,h,[],.slnil,by simp⟩
  ·rintro⟨u,hu,t,ht,rfl⟩
   have:t=[]:=by simpa using ht
   subst this
   simpa using hu
 |a::V,acc,w=>by
  rw[List.foldl_cons,wM V]
  constructor
  ·rintro⟨u,hu,t,ht,rfl⟩
   rcases Zah.mp hu with q |q
   ·exact⟨u,q,t,ht.cons _,rfl⟩
   ·obtain⟨v,hv,rfl⟩:=Zbf.mp q
    exact⟨v,hv,a::t,ht.cons_cons _,by simp⟩
  ·rintro⟨u,hu,t,ht,rfl⟩
   cases ht with
   |cons _ h=>exact⟨u,by simp[hu],t,h,rfl⟩
   |cons_cons _ h=>exact⟨u++[a],by simp[hu],_,h,by simp⟩
theorem qd{V:Tx}(hV:Srt V){w:Tx}:w∈oZ V↔Sub V w:=by
 unfold oZ
 rw[wM]
 constructor
 ·rintro⟨u,hu,t,ht,rfl⟩
  rw[Zaf.mp hu,List.nil_append]
  exact⟨List.Pairwise.sublist ht hV,fun x hx=>ht.subset hx⟩
 ·intro h
  exact⟨[],by simp,w,dJ h.1 hV h.2,rfl⟩
theorem wN(V:Tx):(oZ V).length=2 ^ V.length:=by
 have key:∀(V:Tx) (acc:List Tx),(V.foldl (fun acc a=>acc++acc.map (· ++[a])) acc).length=acc.length*2 ^ V.length:=fun V=>by
  induction V with
  |nil=>intro acc;simp
  |cons a V ih=>
   intro acc
   rw[List.foldl_cons,ih,pA,eM,List.length_cons,Nat.pow_succ,←Nat.two_mul,Nat.mul_comm 2,Nat.mul_assoc,Nat.mul_comm 2]
 unfold oZ
 rw[key]
 simp
def jK(F:List Tx)(w:Tx):Bool:=F.all fun v=> !decide (∀x∈v,x∉w)
theorem Cq{F:List Tx}{w:Tx}:jK F w=true↔i8 F w:=by
 unfold jK i8
 rw[List.all_eq_true]
 refine⟨fun h v hv=>?_,fun h v hv=>?_⟩
 ·have:=h v hv
  simp only[Bool.not_eq_true',decide_eq_false_iff_not]at this
  obtain⟨x,h⟩:=Classical.not_forall.mp this
  obtain⟨a,b⟩:=Classical.not_imp.mp h
  exact⟨x,a,Classical.not_not.mp b⟩
 ·obtain⟨x,a,b⟩:=h v hv
  simp only[Bool.not_eq_true',decide_eq_false_iff_not]
  exact fun z=>z x a b
theorem EK{U V:Tx}{f:Tx→Prop}{G:List Tx}(hU:Srt U)(hV:Srt V)(l:le V U)(m:G_ U f)(hG:∀w,w∈G↔Sub V w∧f w)(h:∀w,Sub U w→f w→f (w.filter fun x=>decide (x∈V))):Told U (aA G) f:=by
 refine zA hU hV l m h ((cS fun v hv=>((hG v).mp hv).1).congr fun w hw=>?_)
 constructor
 ·rintro⟨v,hv,q⟩
  obtain⟨a,b⟩:=(hG v).mp hv
  exact m v w ⟨a.1,a.2.trans l⟩ ⟨hw.1,hw.2.trans l⟩ q b
 ·intro q
  exact⟨w,(hG w).mpr ⟨hw,q⟩,le.refl w⟩
theorem wO{U:Tx}{F:List Tx}(hF:∀v∈F,Sub U v){w:Tx}:i8 (aA F) w↔i8 F w:=by
 have t:=cS hF
 constructor
 ·intro h v hv
  obtain⟨k,hk,l⟩:=(t.up_iff (Ha U F) (hF v hv)).mpr ⟨v,hv,le.refl v⟩
  obtain⟨x,a,b⟩:=h k hk
  exact⟨x,l x a,b⟩
 ·intro h v hv
  exact h v ((uL hF).mp ((t.mem v).mp hv)).1
def sy(F:List Tx)(V:Tx):List Tx:=aA ((oZ V).filter (jK (aA F)))
theorem Cr{F:List Tx}{V w:Tx}(hF:∀v∈F,le v V)(h:i8 F w):i8 F (w.filter fun x=>decide (x∈V)):=fun v hv=>by
 obtain⟨x,a,b⟩:=h v hv
 exact⟨x,a,List.mem_filter.mpr ⟨b,zz4 (hF v hv x a)⟩⟩
theorem nQ{U V:Tx}{F:List Tx}(hU:Srt U)(hV:Srt V)(l:le V U)(hF:∀v∈F,Sub U v)(hFV:∀v∈F,le v V):Told U (sy F V) (LN U (up F)):=by
 refine(EK (f:=i8 F) hU hV l (fun v w _ _ q h u hu=>?_) (fun w=>?_) fun w _ h=>Cr hFV h).congr fun w hw=>sx hF
 ·obtain⟨x,a,b⟩:=h u hu
  exact⟨x,a,q x b⟩
 ·rw[List.mem_filter,qd hV,Cq,wO hF]
end NhFam
namespace Nhk55
open PySem L2 Nh PL
def qe:List (Str×Bool):=[("NoNails",false),("NoRule",false),("TooMany",false),("TooLong",false)]
def oI:List (Str×Bool):=[("NoNails",true),("NoRule",false),("TooMany",false),("TooLong",false)]
def qf:List (Str×Bool):=[("NoNails",false),("NoRule",true),("TooMany",false),("TooLong",false)]
def qg:List (Str×Bool):=[("NoNails",false),("NoRule",false),("TooMany",false),("TooLong",false)]
def qh:List (Str×Bool):=[("NoNails",false),("NoRule",false),("TooMany",false),("TooLong",false)]
def qi:List (Str×Bool):=[("NoNails",false),("NoRule",false),("TooMany",false),("TooLong",false)]
def qj:List (Str×Bool):=[("NoNails",false),("NoRule",false),("TooMany",false),("TooLong",false)]
def mM:List (Str×Bool):=[("NoNails",false),("NoRule",false),("TooMany",false),("TooLong",false)]
def oJ:List (Str×Bool):=[("NoNails",false),("NoRule",false),("TooMany",true),("TooLong",false)]
def oK:List (Str×Bool):=[("NoNails",false),("NoRule",false),("TooMany",false),("TooLong",true)]
def kc:List (Str×Bool):=[("NoNails",true),("NoRule",true),("TooMany",true),("TooLong",true)]
def kP:cI:=(bq (Dy (lA (oW .str) (aa 0)) (Dy (ah kY false (cb d8 (af false (aa 0) ai)) (pC (.int 1))) (tB (g5 .le) (g5 .le) false false (pC (.str "a")) (aa 0) (pC (.str "z"))))))
def cX:List PyData→Option Sl:=gy 1 1 kP
def jL:fK:=(rM 2 (jg (aO 2) (jg (aO 3) rL)))
def jM:cI:=(aL (aH 4 (aa 3))
 (aL (bT (vS (dZ (aa 1)) (d5 (ah kY false (ah m5 false (ah m5 false (aa 1) (lA Gv (pC (.int 1)))) (pC (.int 0))) (aa 2))))
 (aH 4 (ah bK false (ah m5 false (Jm 1) (pC (.int 1))) (aa 3)))
 aW)
 (bT (d5 (ah qP false (aa 4) (pC (.int 0))))
 (fA (gH 1 (tE (aw (aa 2) (aw (aa 4) cr)))))
 aW)))
def jv:cI:=(aL (aH 1 (cK cr))
 (aL (eR (bw (aa 0)) jL
 jM)
 (bq (aa 1))))
def iL:List PyData→Option Sl:=gy 1 5 jv
def nR:cI:=(bq (ah kY false (cb d8 (af false (am iL (af false (aa 0) ai)) ai)) (pC (.int 0))))
def bZ:List PyData→Option Sl:=gy 1 1 nR
def cg:fK:=(aO 1)
def ck:cI:=(bT (eQ (dZ (am cX (af false (aa 1) ai))))
 cL
 aW)
def mO:cI:=(aL (bT (eQ (dZ (lA (oW .str) (aa 0))))
 cL
 aW)
 (aL (eR (bw (aa 0)) cg
 ck)
 (bq (iD "" (j7 (aa 0))))))
def eO:List PyData→Option Sl:=gy 1 2 mO
def mP:fO:=(pj (qU (eQ (dZ (lA (oW .str) (aa 0)))) (g7 "NoNails"))
 (jQ (bT (eQ (dZ (lA (oW .str) (aa 0))))
 cL
 aW)
 (LF (bw (aa 0)) cg ck (qU (eQ (dZ (am cX (af false (aa 1) ai)))) (g7 "NoNails")))))
def gV:List PyData→Option Str:=wv 1 2 mP
def iM:fK:=(rM 2 (jg (aO 0) (jg (aO 1) rL)))
def iN:ba:=(aa 0)
def jw:cI:=(bq (iD "" (j7 (bh [none,none] (bw (aa 0)) iM a_ iN))))
def eD:List PyData→Option Sl:=gy 1 1 jw
def fF:fK:=(aO 3)
def fG:cI:=(aL (bT (d5 (ah (Jx false) false (aa 3) (aa 0)))
 (aH 1 (ah bK false (aa 1) (aa 2)))
 aW)
 (aH 2 (ah iH false (aa 2) (pC (.int 2)))))
def kQ:cI:=(aL (aH 1 (pC (.int 0)))
 (aL (aH 2 (pC (.int 1)))
 (aL (eR (bw (pC (.str "abcdefghijklmnopqrstuvwxyz"))) fF
 fG)
 (bq (aa 1)))))
def cD:List PyData→Option Sl:=gy 1 4 kQ
def eZ:cI:=(bq (uI (aa 0)))
def bx:List PyData→Option Sl:=gy 1 1 eZ
def bH:fK:=(aO 2)
def bi:cI:=(bT (d5 (ah kY false (ah vZ false (aa 2) (aa 0)) (aa 2)))
 (bq (pC (.bool true)))
 aW)
def dh:cI:=(aL (eR (bw (aa 1)) bH
 bi)
 (bq (pC (.bool false))))
def aX:List PyData→Option Sl:=gy 2 3 dh
def cM:fK:=(aO 2)
def b0:cI:=(bT (d5 (ah kY false (ah vZ false (aa 2) (aa 0)) (pC (.int 0))))
 (bq (pC (.bool false)))
 aW)
def fH:cI:=(aL (eR (bw (aa 1)) cM
 b0)
 (bq (pC (.bool true))))
def cY:List PyData→Option Sl:=gy 2 3 fH
def cZ:fK:=(aO 3)
def cm:cI:=(aL (aH 4 (am cD (af false (aa 3) ai)))
 (bT (eQ (dZ (am aX (af false (aa 4) (af false (aa 2) ai)))))
 (aL (fA (gH 2 (aa 4)))
 (fA (gH 1 (aa 3))))
 aW))
def hM:cI:=(aL (aH 1 (cK cr))
 (aL (aH 2 (cK cr))
 (aL (eR (bw (am bx (af false (aa 0) ai))) cZ
 cm)
 (bq (aa 1)))))
def dv:List PyData→Option Sl:=gy 1 5 hM
def gb:fK:=(aO 0)
def eT:ba:=(ah bK false (aa 0) (aa 1))
def dL:fK:=(aO 2)
def dM:cI:=(aH 1 (ah bK false (aa 1) (bh [none,some 2] (bw (aa 1)) gb a_ eT)))
def hO:cI:=(aL (aH 1 (cK (aw (pC (.str "")) cr)))
 (aL (eR (bw (aa 0)) dL
 dM)
 (bq (aa 1))))
def cT:List PyData→Option Sl:=gy 1 3 hO
def gK:cI:=(bT (d5 (ah (jf (g5 .gt)) false (cb d8 (af false (aa 0) ai)) (pC (.int 10))))
 cL
 aW)
def dN:List PyData→Option Sl:=gy 1 1 gK
def jy:fO:=(qU (d5 (ah (jf (g5 .gt)) false (cb d8 (af false (aa 0) ai)) (pC (.int 10)))) (g7 "TooMany"))
def c7:List PyData→Option Str:=wv 1 1 jy
def gc:cI:=(bq (am eO (af false (iD "" (aa 0)) ai)))
def bu:List PyData→Option Sl:=gy 1 1 gc
def cN:fK:=(aO 0)
def cO:ba:=(am eO (af false (aa 0) ai))
def gL:cI:=(bq (am dv (af false (bh [none] (bw (aa 0)) cN a_ cO) ai)))
def aP:List PyData→Option Sl:=gy 1 1 gL
def gM:fO:=(wC [none] (bw (aa 0)) (aO 0) (am eO (af false (aa 0) ai)) (ce gV (af false (aa 0) ai)))
def bO:List PyData→Option Str:=wv 1 1 gM
def aT:fK:=(aO 0)
def aU:ba:=(am cD (af false (aa 0) ai))
def bV:fK:=(aO 0)
def bW:ba:=(aa 0)
def bG:jW:=(dZ (am cY (af false (am cD (af false (aa 0) ai)) (af false (aa 1) ai))))
def eG:cI:=(aL (aH 1 (bh [none] (bw (am aP (af false (aa 0) ai))) aT a_ aU))
 (aL (aH 2 (am bu (af false (aa 0) ai)))
 (aL (fA (am dN (af false (aa 2) ai)))
 (bq (am dv (af false (bh [none,some 1] (bw (am cT (af false (aa 2) ai))) bV bG bW) ai))))))
def bJ:List PyData→Option Sl:=gy 1 3 eG
def fI:fO:=(pj (ce bO (af false (aa 0) ai))
 (jQ (aH 1 (bh [none] (bw (am aP (af false (aa 0) ai))) aT a_ aU))
 (jQ (aH 2 (am bu (af false (aa 0) ai)))
 (ce c7 (af false (aa 2) ai)))))
def dG:List PyData→Option Str:=wv 1 3 fI
def hW:fO:=(jQ (aH 1 (am eD (af false (aa 0) ai)))
 (ce c7 (af false (aa 1) ai)))
def dH:List PyData→Option Str:=wv 1 2 hW
def dD:cI:=(bq (am aP (af false (aa 0) ai)))
def aQ:List PyData→Option Sl:=gy 1 1 dD
def fe:fO:=(p9 ["NoNails"] "NoRule" (ce bO (af false (aa 0) ai)))
def bI:List PyData→Option Str:=wv 1 1 fe
def gN:cI:=(aL (bT (nw (eQ (dZ (lA (oW .list) (aa 0)))) (d5 (ah kY false (cb d8 (af false (aa 0) ai)) (pC (.int 0)))))
 cL
 aW)
 (aL (bT (d5 (ah qP false (am aQ (af false (aa 0) ai)) (aa 0)))
 cL
 aW)
 (bT (d5 (ah kY false (ah m5 false (aa 0) (pC (.int 0))) (pC (.str ""))))
 cL
 aW)))
def cq:List PyData→Option Sl:=gy 1 1 gN
def gO:fO:=(pj (qU (nw (eQ (dZ (lA (oW .list) (aa 0)))) (d5 (ah kY false (cb d8 (af false (aa 0) ai)) (pC (.int 0))))) (g7 "NoRule"))
 (jQ (bT (nw (eQ (dZ (lA (oW .list) (aa 0)))) (d5 (ah kY false (cb d8 (af false (aa 0) ai)) (pC (.int 0)))))
 cL
 aW)
 (pj (pj (ce bI (af false (aa 0) ai)) (qU (d5 (ah qP false (am aQ (af false (aa 0) ai)) (aa 0))) (g7 "NoRule")))
 (jQ (bT (d5 (ah qP false (am aQ (af false (aa 0) ai)) (aa 0)))
 cL
 aW)
 (qU (d5 (ah kY false (ah m5 false (aa 0) (pC (.int 0))) (pC (.str "")))) (g7 "NoRule"))))))
def bv:List PyData→Option Str:=wv 1 1 gO
def gP:cI:=(bq (ah df false (ah bK false (aa 0) (pC (.int 1))) (pC (.int 2))))
def dO:List PyData→Option Sl:=gy 1 1 gP
def bP(self:List PyData→Option Sl):cI:=(aL (bT (d5 (ah kY false (aa 0) (pC (.int 1))))
 (bq (pC (.int 1)))
 aW)
 (aL (aH 1 (am dO (af false (aa 0) ai)))
 (bq (ah iH false (pC (.int 2)) (ah bK false (am self (af false (aa 1) ai)) (am self (af false (ah Jc false (aa 0) (aa 1)) ai)))))))
def cw:Nat→List PyData→Option Sl
 | 0=>fun _=>none
 |k+1=>gy 1 2 (bP (cw k))
def jN:List PyData→Option Sl:=cw 8
def fg:fK:=(aO 0)
def dE:ba:=(am jN (af false (cb d8 (af false (aa 0) ai)) ai))
def dI:cI:=(aL (fA (am cq (af false (aa 0) ai)))
 (bq (cb BL (af false (bh [none] (bw (am bJ (af false (aa 0) ai))) fg a_ dE) ai))))
def aI:List PyData→Option Sl:=gy 1 1 dI
def e8:fO:=(pj (ce bv (af false (aa 0) ai))
 (jQ (fA (am cq (af false (aa 0) ai)))
 (ce dG (af false (aa 0) ai))))
def aN:List PyData→Option Str:=wv 1 1 e8
def nT:fO:=(pj (ce aN (af false (aa 0) ai)) (qU (d5 (ah (jf (g5 .gt)) false (am aI (af false (aa 0) ai)) (pC (.int 800)))) (g7 "TooLong")))
def fi:List PyData→Option Str:=wv 1 3 nT
def nU:fO:=(pj (qU (dZ (am bZ (af false (aa 0) ai))) (g7 "NoRule"))
 (jQ (bT (dZ (am bZ (af false (aa 0) ai)))
 cL
 aW)
 (ce dH (af false (aa 0) ai))))
def fj:List PyData→Option Str:=wv 1 1 nU
def mQ:cI:=(aL (bT (d5 (ah (jf (g5 .lt)) false (aa 1) (cb d8 (af false (aa 0) ai))))
 (bq (ah m5 false (aa 0) (aa 1)))
 aW)
 (bq (pC (.int 0))))
def bp:List PyData→Option Sl:=gy 2 2 mQ
def kR:cI:=(aL (aH 2 (ah cJ false (ah bK false (ah bK false (ah iH false (ah cJ false (aa 0) (ah vR false (pC (.int 10)) (pC (.int 40)))) (ah bK false (pC (.int 62089911)) (ah iH false (pC (.int 2)) (aa 1)))) (ah iH false (pC (.int 982451653)) (aa 1))) (pC (.int 17))) (pC (.int 4294967291))))
 (bq (ah cJ false (ah iH false (aa 2) (ah bK false (ah bK false (ah df false (aa 2) (pC (.int 1024))) (ah iH false (pC (.int 2)) (aa 1))) (pC (.int 1)))) (pC (.int 4294967279)))))
def dF:List PyData→Option Sl:=gy 2 3 kR
def lQ:cI:=(aL (aH 1 (cK (aw (lA (kZ qe) (aa 0)) (aw (lA (kZ oI) (aa 0)) (aw (lA (kZ qf) (aa 0)) (aw (lA (kZ qg) (aa 0)) cr))))))
 (aL (aH 1 (ah bK false (aa 1) (cK (aw (lA (kZ qh) (aa 0)) (aw (lA (kZ qi) (aa 0)) (aw (lA (kZ qj) (aa 0)) cr))))))
 (aL (aH 1 (ah bK false (aa 1) (cK (aw (lA (kZ mM) (aa 0)) (aw (lA (kZ oJ) (aa 0)) (aw (lA (kZ oK) (aa 0)) cr))))))
 (aL (bT (nw (eQ (dZ (lA (kZ kc) (aa 0)))) (d5 (ah qP false (tZ 1) (pC (.int 1)))))
 (bq (pC (.str "other")))
 aW)
 (aL (aH 2 (cK (aw (pC (.str "cord")) (aw (pC (.str "nails")) (aw (pC (.str "rule")) (aw (pC (.str "text")) (aw (pC (.str "move")) (aw (pC (.str "line")) (aw (pC (.str "name")) (aw (pC (.str "number")) (aw (pC (.str "many")) (aw (pC (.str "long")) cr))))))))))))
 (bq (ah m5 false (aa 2) (t_ 1))))))))
def bQ:List PyData→Option Sl:=gy 1 3 lQ
def cU:fK:=(aO 0)
def bX:ba:=(ah (Jx false) false (aa 0) (aa 1))
def bn:fK:=(aO 2)
def aY:cI:=(bT (dZ (cb Gz (af false (bh [none,some 0] (bw (aa 2)) cU a_ bX) ai)))
 (bq (pC (.bool true)))
 aW)
def eI:cI:=(aL (eR (bw (aa 1)) bn
 aY)
 (bq (pC (.bool false))))
def b_:List PyData→Option Sl:=gy 2 3 eI
def cE:fK:=(aO 0)
def cF:ba:=(aa 0)
def cG:jW:=(d5 (ah kY false (cb d8 (af false (aa 0) ai)) (aa 1)))
def di:fK:=(aO 3)
def cH:cI:=(bT (eQ (dZ (am b_ (af false (aa 3) (af false (aa 1) ai)))))
 (fA (gH 1 (aa 3)))
 aW)
def dl:fK:=(aO 2)
def dm:cI:=(eR (bw (fZ (bh [none,some 2] (bw (aa 0)) cE cG cF))) di
 cH)
def gl:cI:=(aL (aH 1 (cK cr))
 (aL (eR (tH (af false (pC (.int 0)) (af false (pC (.int 27)) ai))) dl
 dm)
 (bq (aa 1))))
def cV:List PyData→Option Sl:=gy 1 4 gl
def eU:fK:=(aO 0)
def dP:ba:=(ah m5 false (aa 1) (aa 0))
def dQ:jW:=(d5 (ah kY false (ah vZ false (ah DT false (aa 2) (aa 0)) (pC (.int 1))) (pC (.int 1))))
def eW:fK:=(aO 5)
def eX:cI:=(aL (aH 6 (ah DT false (ah df false (aa 4) (pC (.int 3))) (ah iH false (pC (.int 6)) (aa 5))))
 (aL (bT (d5 (ah (jf (g5 .lt)) false (cb vT (af false (aa 4) ai)) (ah vR false (pC (.int 10)) (pC (.int 18)))))
 (aH 6 (am dF (af false (aa 4) (af false (ah bK false (pC (.int 30)) (aa 5)) ai))))
 aW)
 (aL (aH 7 (iD "" (bh [none,some 2,some 6] (d9 (af false (cb d8 (af false (aa 2) ai)) ai)) eU dQ dP)))
 (bT (d5 (ah qP false (aa 7) (pC (.str ""))))
 (fA (gH 3 (aa 7)))
 aW))))
def eY:fK:=(aO 4)
def c8:cI:=(eR (d9 (af false (ah bK false (pC (.int 1)) (ah cJ false (aa 4) (pC (.int 3)))) ai)) eW
 eX)
def hZ:cI:=(aL (aH 3 (cK cr))
 (aL (eR (bw (ah bK false (cK (aw (am bp (af false (aa 0) (af false (aa 1) ai))) cr)) (oX false (aa 0) (gf (ah bK false (aa 1) (pC (.int 1)))) (gf (ah bK false (aa 1) (pC (.int 8))))))) eY
 c8)
 (bq (am cV (af false (ah bK false (aa 3) (cK (aw (aa 2) cr))) ai)))))
def ft:List PyData→Option Sl:=gy 3 8 hZ
def eJ:fK:=(aO 0)
def dq:ba:=(ah m5 false (aa 1) (ah cJ false (ah bK false (aa 2) (ah iH false (aa 3) (aa 0))) (pC (.int 26))))
def gm:cI:=(aL (aH 2 (pC (.str "abcdefghijklmnopqrstuvwxyz")))
 (aL (aH 3 (ah bK false (pC (.int 1)) (ah cJ false (aa 0) (aa 1))))
 (aL (aH 4 (ah m5 false (cK (rO [1,3,5,7,9,11])) (ah cJ false (ah df false (aa 0) (aa 1)) (pC (.int 6)))))
 (aL (aH 5 (ah cJ false (ah df false (ah df false (aa 0) (aa 1)) (pC (.int 6))) (pC (.int 26))))
 (bq (iD "" (fZ (bh [none,some 2,some 5,some 4] (d9 (af false (aa 3) ai)) eJ a_ dq))))))))
def eP:List PyData→Option Sl:=gy 2 6 gm
def lR:cI:=(aL (aH 2 (pC (.str "")))
 (aL (wx ["NoNails","NoRule","TooMany","TooLong"] 3 (jm 0 [("pieces_needed",aN),("cord_of",fi),("rule_of",fj)] (af false (aa 1) ai)) (aH 2 (lI 0 [("pieces_needed",aI)] (af false (aa 1) ai))) (bq (am bQ (af false (aa 3) ai))))
 (bq (aa 2))))
def aB:List PyData→Option Sl:=gy 2 4 lR
def dR:cI:=(aL (aH 2 (ah df false (aa 1) (pC (.int 5))))
 (aL (aH 3 (pM (aa 0)))
 (aL (aH 4 (ah cJ false (ah df false (aa 2) (pC (.int 10))) (ah bK false (cb d8 (af false (aa 0) ai)) (pC (.int 1)))))
 (aL (bT (d5 (ah kY false (ah cJ false (aa 1) (pC (.int 5))) (pC (.int 0))))
 (aL (jn 3 (aa 4) (ah m5 false (cK (aw (pC .none) (aw (pC (.int 7)) (aw (pC (.bool true)) (aw (cK (aw (pC (.str "a")) cr)) (aw (pC (.str "")) (aw (pC (.str "A")) (aw (pC (.str "a b")) (aw (pC (.str "ba")) (aw (pC (.str "aab")) (aw (pC (.str "a1")) cr))))))))))) (ah cJ false (aa 2) (pC (.int 10)))))
 (bq (aa 3)))
 aW)
 (aL (bT (d5 (ah kY false (ah cJ false (aa 1) (pC (.int 5))) (pC (.int 1))))
 (bq (ah m5 false (cK (aw (pC .none) (aw (pC (.str "")) (aw (pC (.str "ab")) (aw (tE cr) (aw (tE (aw (pC (.str "ab")) cr)) (aw MY (aw (cK cr) (aw (pC (.int 3)) cr))))))))) (ah cJ false (aa 2) (pC (.int 8)))))
 aW)
 (aL (bT (vS (d5 (ah kY false (ah cJ false (aa 1) (pC (.int 5))) (pC (.int 2)))) (d5 (ah (jf (g5 .gt)) false (cb d8 (af false (aa 0) ai)) (pC (.int 1)))))
 (aL (fA (j0 3))
 (bq (aa 3)))
 aW)
 (aL (bT (d5 (ah kY false (ah cJ false (aa 1) (pC (.int 5))) (pC (.int 3))))
 (bq (ah bK false (aa 3) (cK (aw (ah bK false (ah m5 false (aa 0) (ah cJ false (aa 2) (cb d8 (af false (aa 0) ai)))) (pC (.str "z"))) cr))))
 aW)
 (aL (jn 3 (aa 4) (ah m5 false (aa 0) (ah cJ false (aa 2) (cb d8 (af false (aa 0) ai)))))
 (bq (aa 3))))))))))
def du:List PyData→Option Sl:=gy 2 5 dR
def iO:fK:=(aO 0)
def iP:ba:=(aa 0)
def ie:cI:=(aL (aH 1 (pC (.str "abcdefghijklmnopqrstuvwxyz")))
 (aL (aH 2 (ah bK false (pC (.int 11)) (ah cJ false (aa 0) (pC (.int 16)))))
 (aL (bT (d5 (ah kY false (ah cJ false (ah df false (aa 0) (pC (.int 16))) (pC (.int 2))) (pC (.int 0))))
 (bq (cK (aw (oX false (aa 1) pL (gf (aa 2))) cr)))
 aW)
 (bq (bh [none] (bw (oX false (aa 1) pL (gf (aa 2)))) iO a_ iP)))))
def fu:List PyData→Option Sl:=gy 1 3 ie
def dS:fK:=(aO 0)
def c9:ba:=(ah m5 false (aa 1) (ah cJ false (ah bK false (ah cJ false (aa 2) (pC (.int 26))) (ah iH false (pC (.int 5)) (aa 0))) (pC (.int 26))))
def dU:fK:=(aO 0)
def c_:ba:=(iD "" (fZ (oX false (aa 1) (gf (ah iH false (pC (.int 2)) (aa 0))) (gf (ah bK false (ah iH false (pC (.int 2)) (aa 0)) (pC (.int 2)))))))
def ig:cI:=(aL (aH 1 (pC (.str "abcdefghijklmnopqrstuvwxyz")))
 (aL (aH 2 (bh [none,some 1,some 0] (d9 (af false (pC (.int 10)) ai)) dS a_ c9))
 (bq (am cV (af false (bh [none,some 2] (d9 (af false (pC (.int 5)) ai)) dU a_ c_) ai)))))
def fv:List PyData→Option Sl:=gy 1 3 ig
def qk:fK:=(rM 2 (jg (aO 0) (jg (aO 1) rL)))
def ql:ba:=(tE (aw (aa 1) (aw (ah bK false (pC (.int 1)) (ah cJ false (aa 0) (pC (.int 3)))) cr)))
def qm:fK:=(rM 2 (jg (aO 0) (jg (aO 1) rL)))
def qo:ba:=(tE (aw (aa 1) (aw (ah Jc false (lA Gv (pC (.int 1))) (ah cJ false (aa 0) (pC (.int 3)))) cr)))
def ii:fK:=(aO 9)
def ij:cI:=(bT (nw (d5 (ah qP false (am aB (af false (aa 9) (af false (aa 3) ai))) (pC (.str "rule")))) (d5 (ah qP false (am aB (af false (aa 9) (af false (aa 4) ai))) (pC (.str "many")))))
 (bq (pC (.bool false)))
 aW)
def io:fK:=(aO 8)
def ip:cI:=(aL (eR (bw (cK (aw (jR "pieces_needed") (aw (jR "cord_of") cr)))) ii
 ij)
 (aL (bT (nw (d5 (ah qP false (am aB (af false (jR "pieces_needed") (af false (aa 5) ai))) (pC (.int 896)))) (d5 (ah qP false (am aB (af false (jR "cord_of") (af false (aa 5) ai))) (pC (.str "long")))))
 (bq (pC (.bool false)))
 aW)
 (bT (nw (d5 (ah qP false (am aB (af false (jR "rule_of") (af false (aa 6) ai))) (pC (.str "many")))) (d5 (ah qP false (am aB (af false (jR "rule_of") (af false (ah bK false (aa 6) (aa 7)) ai))) (pC (.str "rule")))))
 (bq (pC (.bool false)))
 aW)))
def wP:cI:=(aL (aH 1 (am eP (af false (am bp (af false (aa 0) (af false (pC (.int 0)) ai))) (af false (pC (.int 5)) ai))))
 (aL (aH 2 (am ft (af false (aa 0) (af false (pC (.int 1)) (af false (aa 1) ai)))))
 (aL (aH 3 (am du (af false (aa 2) (af false (am bp (af false (aa 0) (af false (pC (.int 9)) ai))) ai))))
 (aL (aH 4 (am fu (af false (am bp (af false (aa 0) (af false (pC (.int 10)) ai))) ai)))
 (aL (aH 5 (am fv (af false (am bp (af false (aa 0) (af false (pC (.int 11)) ai))) ai)))
 (aL (aH 6 (bh [none,none] (p_ (pC (.str "abcdefghijk"))) qk a_ ql))
 (aL (aH 7 (bh [none,none] (p_ (pC (.str "abcdefghijk"))) qm a_ qo))
 (aL (fA (j0 7))
 (aL (eR (d9 (af false (pC (.int 2)) ai)) io
 ip)
 (bq (ah kY false (am aB (af false (jR "rule_of") (af false (cK cr) ai))) (pC (.str "rule")))))))))))))
def lS:List PyData→Option Sl:=gy 1 10 wP
end Nhk55
namespace Nhk55
open PySem L2 Nh PL
def ke(i:Nat):Stmt:=PySem.Challenge.pw_nailhang_k55_making_refused.main.body.getD i (.Pass ⟨0,0,0,0⟩)
structure XF (K:Frag) (mg:Str→Option Value):Prop where
 c_NoCord:∃C,mg "NoCord"=some (.ref C)∧XT K (.ref C) qe
 c_NoNails:∃C,mg "NoNails"=some (.ref C)∧XT K (.ref C) oI∧XC K mg "NoNails" C
 c_NoRule:∃C,mg "NoRule"=some (.ref C)∧XT K (.ref C) qf∧XC K mg "NoRule" C
 c_NoText:∃C,mg "NoText"=some (.ref C)∧XT K (.ref C) qg
 c_NoMove:∃C,mg "NoMove"=some (.ref C)∧XT K (.ref C) qh
 c_NoLine:∃C,mg "NoLine"=some (.ref C)∧XT K (.ref C) qi
 c_NoName:∃C,mg "NoName"=some (.ref C)∧XT K (.ref C) qj
 c_NoNumber:∃C,mg "NoNumber"=some (.ref C)∧XT K (.ref C) mM
 c_TooMany:∃C,mg "TooMany"=some (.ref C)∧XT K (.ref C) oJ∧XC K mg "TooMany" C
 c_TooLong:∃C,mg "TooLong"=some (.ref C)∧XT K (.ref C) oK∧XC K mg "TooLong" C
 v_ValueError:mg "ValueError"=none∧XT K (.type "ValueError") kc
 e_HangError:∃C,mg "HangError"=some (.ref C)∧∀n∈[("NoNails":Str),("NoRule":Str),("TooMany":Str),("TooLong":Str)],∀D,nsIn K mainGlobals n=some (some (.ref D))→exmOne K (.ref D) (.ref C)=some true
 f_pieces_needed:GT K mg "pieces_needed"
 f_cord_of:GT K mg "cord_of"
 f_rule_of:GT K mg "rule_of"
 e_NoNails:∃C,mg "NoNails"=some (.ref C)∧∀n∈[("NoNails":Str)],∀D,nsIn K mainGlobals n=some (some (.ref D))→exmOne K (.ref D) (.ref C)=some true
abbrev nV:Stmt:=ke 13
abbrev jz:Stmt:=ke 14
abbrev nW:Stmt:=ke 15
abbrev qp:Stmt:=ke 20
abbrev lT:Stmt:=ke 21
abbrev nX:Stmt:=ke 27
abbrev cP:Stmt:=ke 28
abbrev fU:Stmt:=ke 29
abbrev jA:Stmt:=ke 30
abbrev lU:Stmt:=ke 31
abbrev lW:Stmt:=ke 32
abbrev jB:Stmt:=ke 33
abbrev iQ:Stmt:=ke 34
abbrev jC:Stmt:=ke 35
abbrev iq:Stmt:=ke 36
abbrev ir:Stmt:=ke 38
abbrev fk:Stmt:=ke 40
abbrev jD:Stmt:=ke 41
abbrev jE:Stmt:=ke 44
abbrev iu:Stmt:=ke 46
abbrev gA:Stmt:=ke 47
abbrev nY:Stmt:=ke 48
abbrev nZ:Stmt:=ke 49
abbrev qr:Stmt:=ke 51
abbrev n4:Stmt:=ke 52
abbrev lX:Stmt:=ke 53
abbrev iv:Stmt:=ke 54
abbrev kf:Stmt:=ke 55
abbrev lY:Stmt:=ke 56
abbrev kh:Stmt:=ke 57
abbrev lZ:Stmt:=ke 58
abbrev iR:Stmt:=ke 59
abbrev l4:Stmt:=ke 60
abbrev l6:Stmt:=ke 61
abbrev qu:Stmt:=ke 62
structure Md (K:Frag) (mg:Str→Option Value):Prop where
 B:Bn mg
 e_is_nail:Def K mg "is_nail" nV ["thing"]
 e_short_form:Def K mg "short_form" jz ["cord"]
 e_is_fall:Def K mg "is_fall" nW ["cord"]
 e_set_of:Def K mg "set_of" qp ["nails"]
 e_nails_of:Def K mg "nails_of" lT ["cord"]
 e_bits_of:Def K mg "bits_of" nX ["nails"]
 e_in_told_order:∃c T,DefT K mg "in_told_order" cP ["sets"] c T
 e_has_part_among:Def K mg "has_part_among" fU ["bits","parts"]
 e_meets_each:Def K mg "meets_each" jA ["bits","others"]
 e_least_of:Def K mg "least_of" lU ["sets"]
 e_all_sets:Def K mg "all_sets" lW ["nails"]
 e_check_many:Def K mg "check_many" jB ["nails"]
 e_nails_among:Def K mg "nails_among" iQ ["sets"]
 e_least_sets:Def K mg "least_sets" jC ["family"]
 e_meeting_sets:Def K mg "meeting_sets" iq ["family"]
 e_falling_sets:Def K mg "falling_sets" ir ["cord"]
 e_least_or_no_rule:Def K mg "least_or_no_rule" fk ["sets"]
 e_check_rule:Def K mg "check_rule" jD ["thing"]
 e_first_half:Def K mg "first_half" jE ["number"]
 e_round_pieces:Def K mg "round_pieces" iu ["number"]
 e_pieces_needed:Def K mg "pieces_needed" gA ["rule"]
 e_cord_of:Def K mg "cord_of" nY ["rule"]
 e_rule_of:Def K mg "rule_of" nZ ["cord"]
 e_law_at:Def K mg "_law_at" qr ["_law_script","_law_k"]
 e_law_mix:Def K mg "_law_mix" n4 ["_law_cell","_law_k"]
 e_law_word:Def K mg "_law_word" lX ["_law_e"]
 e_law_has_part:Def K mg "_law_has_part" iv ["_law_one","_law_sets"]
 e_law_least:Def K mg "_law_least" kf ["_law_sets"]
 e_law_rule:Def K mg "_law_rule" lY ["_law_script","_law_first","_law_nails_here"]
 e_law_nails:Def K mg "_law_nails" kh ["_law_cell","_law_most"]
 e_law_said:Def K mg "_law_said" lZ ["_law_deed","_law_thing"]
 e_law_no_rule:Def K mg "_law_no_rule" iR ["_law_rule_here","_law_cell"]
 e_law_many:Def K mg "_law_many" l4 ["_law_cell"]
 e_law_long:Def K mg "_law_long" l6 ["_law_cell"]
 G_LETTERS:∃t,mg "LETTERS"=some (.str "abcdefghijklmnopqrstuvwxyz" t)
 G_MOST_NAILS:∃t,mg "MOST_NAILS"=some (.int 10 t)
 G_MOST_PIECES:∃t,mg "MOST_PIECES"=some (.int 800 t)
 XX:XF K mg
section
variable {P:Program} {w:World} {K:Frag} {mg:Str→Option Value} {base:Heap}
theorem xo{pos:Pos}{es:List Expr}{g:nq}(D:Own X.prog X.w X.K X.mg X.base k x ps (gw X.K c))(ha:AX X (e::es) m g)(hr:Room k X.A:=by exact Room.mono (by assumption) (by first |decide |omega))(hg:Gl X x:=by rfl)
  (hdb:(x == ("__debug__":Str))=false:=by decide) (he:starEach (e::es) X.env=(false,eval e X.env)::starEach es X.env:=by rfl) (hpl:(backTo pos (starEach es X.env)).any (·.1)=false:=by rfl):EX X (.Call (.Name x p) (e::es) [] pos) m (am c g):=yA D hr hg ha hdb he hpl
theorem S0:FnScope ["thing"] ["thing"] (ak nV):=by and_intros
theorem l8(M:Md K mg):Own P w K mg base 1 "is_nail" ["thing"] (gw K cX):=by
 delta cX
 refine fD (g:=kP) M.e_is_nail S0 rfl rfl (by decide) fun f cdv A outer s H E hr=>?_
 delta kP
 exact(ao (aM (Dz (lC .str (by rfl) (by exact M.B.isinstance) (ae 0) (by rfl) (by exact M.B.str) PyProof.Rows.boot_str) (Dz (Dv hr.units (fb (by rfl) (by exact M.B.len) (ag (ae 0) ar)) au) (Je (Lq .le .le aV (ae 0) aV))))))
theorem S4:FnScope ["cord","runs","nail","turns","total"] ["cord"] (ak jz):=by and_intros
theorem rf(M:Md K mg):Own P w K mg base 1 "short_form" ["cord"] (gw K iL):=by
 delta iL
 refine fD (g:=jv) M.e_short_form S4 rfl rfl (by decide) fun f cdv A outer s H E hr=>?_
 delta jv
 exact(aj (aJ 1 S4.nd (dg DL.nil))
 (aj (fB PassesOwn.never (by rfl) (cC (ae 0)) (by delta jL;exact(tF (by rfl) (gg (aK 2 S4.nd) (gg (aK 3 S4.nd) pe))))
 (by delta jM;exact(aj (aJ 4 S4.nd (ae 3))
 (aj (cc (tD (DA (d7 (ae 1)) (Aj (gC hr.units (gY (gY (ae 1) (Ds au)) au) (ae 2)))))
 (ao (aJ 4 S4.nd (bF (gY (Jo 1) au) (ae 3))))
 aR)
 (ao (cc (jI hr.units (ae 4) au)
 (ao (fY (iX 1 (qc (DL.cons (ae 2) rfl (DL.cons (ae 4) rfl DL.nil))))))
 aR))))))
 (ao (aM (ae 1)))))
theorem S5:FnScope ["cord"] ["cord"] (ak nW):=by and_intros
theorem qv(M:Md K mg):Own P w K mg base 2 "is_fall" ["cord"] (gw K bZ):=by
 delta bZ
 refine fD (g:=nR) M.e_is_fall S5 rfl rfl (by decide) fun f cdv A outer s H E hr=>?_
 delta nR
 exact(ao (aM (Dv hr.units (fb (by rfl) (by exact M.B.len) (ag (xo (rf M) (ag (ae 0) ar)) ar)) au)))
theorem S6:FnScope ["nails","sign"] ["nails"] (ak qp):=by and_intros
theorem n6(M:Md K mg):Own P w K mg base 2 "set_of" ["nails"] (gw K eO):=by
 obtain⟨C_NoNails,m_NoNails,t_NoNails,z_NoNails⟩:=M.XX.c_NoNails
 delta eO
 refine fD (g:=mO) M.e_set_of S6 rfl rfl (by decide) fun f cdv A outer s H E hr=>?_
 delta mO
 exact(aj (cc (gv (d7 (lC .str (by rfl) (by exact M.B.isinstance) (ae 0) (by rfl) (by exact M.B.str) PyProof.Rows.boot_str)))
 (ao ef)
 aR)
 (aj (fB PassesOwn.never (by rfl) (cC (ae 0)) (by delta cg;exact(aK 1 S6.nd))
 (by delta ck;exact(ao (cc (gv (d7 (xo (l8 M) (ag (ae 1) ar))))
 (ao ef)
 aR))))
 (ao (aM (kK (pZ rfl (by rfl) (by exact M.B.sorted) (by rfl) (by exact M.B.set) (ae 0)))))))
theorem zB(M:Md K mg):OwnR P w K mg base 2 "set_of" ["nails"] (wu K gV):=by
 obtain⟨C_NoNails,m_NoNails,t_NoNails,z_NoNails⟩:=M.XX.c_NoNails
 delta gV
 refine qV (mk:=true) (al:=true) (r:=mP) M.e_set_of S6 rfl rfl (by decide) fun f cdv A outer s H E hr=>?_
 delta mP
 exact(se (be (oH (gv (d7 (lC .str (by rfl) (by exact M.B.isinstance) (ae 0) (by rfl) (by exact M.B.str) PyProof.Rows.boot_str))) (be (gj (by rfl) (by rfl) z_NoNails))))
 (j9 (cc (gv (d7 (lC .str (by rfl) (by exact M.B.isinstance) (ae 0) (by rfl) (by exact M.B.str) PyProof.Rows.boot_str)))
 (ao ef)
 aR)
 (be (JI rfl rfl (by rfl) (fun W=>(cC (ae 0))) (fun W=>by delta cg;exact(aK 1 S6.nd)) (by delta ck;exact(ao (cc (gv (d7 (xo (l8 M) (ag (ae 1) ar))))
 (ao ef)
 aR))) (fun W=>(be (oH (gv (d7 (xo (l8 M) (ag (ae 1) ar)))) (be (gj (by rfl) (by rfl) z_NoNails)))))))))
theorem S7:FnScope ["cord"] ["cord"] (ak lT):=by and_intros
theorem wQ(M:Md K mg):Own P w K mg base 1 "nails_of" ["cord"] (gw K eD):=by
 delta eD
 refine fD (g:=jw) M.e_nails_of S7 rfl rfl (by decide) fun f cdv A outer s H E hr=>?_
 delta jw
 exact(ao (aM (kK (pZ rfl (by rfl) (by exact M.B.sorted) (by rfl) (by exact M.B.set) (d_ (N:=["nail","turns"]) (js:=[none,none]) cy (by rfl) (cC (ae 0)) (fun _ _ _ _=>(by delta iM;exact(tF (by rfl) (gg (aK 0 (show(["nail","turns"]:List Str).Nodup by decide+kernel)) (gg (aK 1 (show(["nail","turns"]:List Str).Nodup by decide+kernel)) pe))))) (fun _ _ _ _=>(by delta iN;exact(ae 0))))))))
theorem S8:FnScope ["nails","bits","bit","letter"] ["nails"] (ak nX):=by and_intros
theorem jF(M:Md K mg):Own P w K mg base 1 "bits_of" ["nails"] (gw K cD):=by
 obtain⟨t_LETTERS,G_LETTERS⟩:=M.G_LETTERS
 delta cD
 refine fD (g:=kQ) M.e_bits_of S8 rfl rfl (by decide) fun f cdv A outer s H E hr=>?_
 delta kQ
 exact(aj (aJ 1 S8.nd au)
 (aj (aJ 2 S8.nd au)
 (aj (fB PassesOwn.never (by rfl) (cC (GC (by rfl) (by exact G_LETTERS))) (by delta fF;exact(aK 3 S8.nd))
 (by delta fG;exact(aj (cc (Lv (ae 3) (ae 0))
 (ao (aJ 1 S8.nd (bF (ae 1) (ae 2))))
 aR)
 (ao (aJ 2 S8.nd (gu (ae 2) au))))))
 (ao (aM (ae 1))))))
theorem S9:FnScope ["sets"] ["sets"] (ak cP):=by and_intros
theorem n8(M:Md K mg):Own P w K mg base 1 "in_told_order" ["sets"] (gw K bx):=by
 obtain⟨c,T,D⟩:=M.e_in_told_order
 delta bx
 refine M3 (g:=eZ) D S9 rfl rfl (by decide) fun f A outer s H E hr=>?_
 delta eZ
 exact(ao (aM (EA rfl D.tp D.hd hr (by rfl) (by exact M.B.sorted) (by exact M.B.len) (ae 0) (by show(Str.ofString "in_told_order"++Str.ofString ".<locals>.")++Str.ofString "<lambda>"=_;decide+kernel))))
theorem Sa:FnScope ["bits","parts","part"] ["bits","parts"] (ak fU):=by and_intros
theorem mR(M:Md K mg):Own P w K mg base 1 "has_part_among" ["bits","parts"] (gw K aX):=by
 delta aX
 refine fD (g:=dh) M.e_has_part_among Sa rfl rfl (by decide) fun f cdv A outer s H E hr=>?_
 delta dh
 exact(aj (fB PassesOwn.never (by rfl) (cC (ae 1)) (by delta bH;exact(aK 2 Sa.nd))
 (by delta bi;exact(ao (cc (gC hr.units (tK (ae 2) (ae 0)) (ae 2))
 (ao (aM k8))
 aR))))
 (ao (aM k8)))
theorem Sb:FnScope ["bits","others","other"] ["bits","others"] (ak jA):=by and_intros
theorem rh(M:Md K mg):Own P w K mg base 1 "meets_each" ["bits","others"] (gw K cY):=by
 delta cY
 refine fD (g:=fH) M.e_meets_each Sb rfl rfl (by decide) fun f cdv A outer s H E hr=>?_
 delta fH
 exact(aj (fB PassesOwn.never (by rfl) (cC (ae 1)) (by delta cM;exact(aK 2 Sb.nd))
 (by delta b0;exact(ao (cc (gC hr.units (tK (ae 2) (ae 0)) au)
 (ao (aM k8))
 aR))))
 (ao (aM k8)))
theorem Sc:FnScope ["sets","told","kept","nails","bits"] ["sets"] (ak lU):=by and_intros
theorem ki(M:Md K mg):Own P w K mg base 2 "least_of" ["sets"] (gw K dv):=by
 delta dv
 refine fD (g:=hM) M.e_least_of Sc rfl rfl (by decide) fun f cdv A outer s H E hr=>?_
 delta hM
 exact(aj (aJ 1 Sc.nd (dg DL.nil))
 (aj (aJ 2 Sc.nd (dg DL.nil))
 (aj (fB PassesOwn.never (by rfl) (cC (xo (n8 M) (ag (ae 0) ar))) (by delta cZ;exact(aK 3 Sc.nd))
 (by delta cm;exact(aj (aJ 4 Sc.nd (xo (jF M) (ag (ae 3) ar)))
 (ao (cc (gv (d7 (xo (mR M) (ag (ae 4) (ag (ae 2) ar)))))
 (aj (fY (iX 2 (ae 4)))
 (ao (fY (iX 1 (ae 3)))))
 aR)))))
 (ao (aM (ae 1))))))
theorem Sd:FnScope ["nails","sets","nail"] ["nails"] (ak lW):=by and_intros
theorem wR(M:Md K mg):Own P w K mg base 1 "all_sets" ["nails"] (gw K cT):=by
 delta cT
 refine fD (g:=hO) M.e_all_sets Sd rfl rfl (by decide) fun f cdv A outer s H E hr=>?_
 delta hO
 exact(aj (aJ 1 Sd.nd (dg (DL.cons aV rfl DL.nil)))
 (aj (fB PassesOwn.never (by rfl) (cC (ae 0)) (by delta dL;exact(aK 2 Sd.nd))
 (by delta dM;exact(ao (aJ 1 Sd.nd (bF (ae 1) (d_ (N:=["chosen","nail"]) (js:=[none,some 2]) gh (by rfl) (cC (ae 1)) (fun _ _ _ _=>(by delta gb;exact(aK 0 (show(["chosen","nail"]:List Str).Nodup by decide+kernel)))) (fun _ _ _ _=>(by delta eT;exact(bF (ae 0) (ae 1))))))))))
 (ao (aM (ae 1)))))
theorem Se:FnScope ["nails"] ["nails"] (ak jB):=by and_intros
theorem rj(M:Md K mg):Own P w K mg base 1 "check_many" ["nails"] (gw K dN):=by
 obtain⟨t_MOST_NAILS,G_MOST_NAILS⟩:=M.G_MOST_NAILS
 obtain⟨C_TooMany,m_TooMany,t_TooMany,z_TooMany⟩:=M.XX.c_TooMany
 delta dN
 refine fD (g:=gK) M.e_check_many Se rfl rfl (by decide) fun f cdv A outer s H E hr=>?_
 delta gK
 exact(ao (cc (rS .gt (fb (by rfl) (by exact M.B.len) (ag (ae 0) ar)) (tU (by rfl) (by exact G_MOST_NAILS)))
 (ao ef)
 aR))
theorem kj(M:Md K mg):OwnR P w K mg base 1 "check_many" ["nails"] (wu K c7):=by
 obtain⟨t_MOST_NAILS,G_MOST_NAILS⟩:=M.G_MOST_NAILS
 obtain⟨C_TooMany,m_TooMany,t_TooMany,z_TooMany⟩:=M.XX.c_TooMany
 delta c7
 refine qV (mk:=true) (al:=true) (r:=jy) M.e_check_many Se rfl rfl (by decide) fun f cdv A outer s H E hr=>?_
 delta jy
 exact(be (oH (rS .gt (fb (by rfl) (by exact M.B.len) (ag (ae 0) ar)) (tU (by rfl) (by exact G_MOST_NAILS))) (be (gj (by rfl) (by rfl) z_TooMany))))
theorem Sf:FnScope ["sets"] ["sets"] (ak iQ):=by and_intros
theorem km(M:Md K mg):Own P w K mg base 3 "nails_among" ["sets"] (gw K bu):=by
 delta bu
 refine fD (g:=gc) M.e_nails_among Sf rfl rfl (by decide) fun f cdv A outer s H E hr=>?_
 delta gc
 exact(ao (aM (xo (n6 M) (ag (kK (ae 0)) ar))))
theorem Sh:FnScope ["family"] ["family"] (ak jC):=by and_intros
theorem iT(M:Md K mg):Own P w K mg base 3 "least_sets" ["family"] (gw K aP):=by
 delta aP
 refine fD (g:=gL) M.e_least_sets Sh rfl rfl (by decide) fun f cdv A outer s H E hr=>?_
 delta gL
 exact(ao (aM (xo (ki M) (ag (d_ (N:=["nails"]) (js:=[none]) cy (by rfl) (cC (ae 0)) (fun _ _ _ _=>(by delta cN;exact(aK 0 (show(["nails"]:List Str).Nodup by decide+kernel)))) (fun _ _ _ _=>(by delta cO;exact(xo (n6 M) (ag (ae 0) ar))))) ar))))
theorem kn(M:Md K mg):OwnR P w K mg base 3 "least_sets" ["family"] (wu K bO):=by
 delta bO
 refine qV (mk:=true) (al:=true) (r:=gM) M.e_least_sets Sh rfl rfl (by decide) fun f cdv A outer s H E hr=>?_
 delta gM
 exact(be (Ay (JJ (ki M) (by rfl) (GS (N:=["nails"]) (js:=[none]) cy rfl rfl (by rfl) (cC (ae 0)) (fun _ _ _ _=>(aK 0 (show(["nails"]:List Str).Nodup by decide+kernel))) (fun _ _ _ _=>(xo (n6 M) (ag (ae 0) ar))) (fun _ _ _ _ _=>(mJ (zB M) (hr.mono (by decide)) (by rfl) (ag (ae 0) ar)))))))
theorem Si:FnScope ["family","others","nails"] ["family"] (ak iq):=by and_intros
theorem o5(M:Md K mg):Own P w K mg base 4 "meeting_sets" ["family"] (gw K bJ):=by
 delta bJ
 refine fD (g:=eG) M.e_meeting_sets Si rfl rfl (by decide) fun f cdv A outer s H E hr=>?_
 delta eG
 exact(aj (aJ 1 Si.nd (d_ (N:=["nails"]) (js:=[none]) cy (by rfl) (cC (xo (iT M) (ag (ae 0) ar))) (fun _ _ _ _=>(by delta aT;exact(aK 0 (show(["nails"]:List Str).Nodup by decide+kernel)))) (fun _ _ _ _=>(by delta aU;exact(xo (jF M) (ag (ae 0) ar))))))
 (aj (aJ 2 Si.nd (xo (km M) (ag (ae 0) ar)))
 (aj (fY (xo (rj M) (ag (ae 2) ar)))
 (ao (aM (xo (ki M) (ag (pO (N:=["chosen","others"]) (js:=[none,some 1]) gh (by rfl) (cC (xo (wR M) (ag (ae 2) ar))) (fun _ _ _ _=>(by delta bV;exact(aK 0 (show(["chosen","others"]:List Str).Nodup by decide+kernel)))) (fun _ _ _ _=>(by delta bG;exact(d7 (xo (rh M) (ag (xo (jF M) (ag (ae 0) ar)) (ag (ae 1) ar)))))) (fun _ _ _ _=>(by delta bW;exact(ae 0)))) ar)))))))
theorem n_(M:Md K mg):OwnR P w K mg base 4 "meeting_sets" ["family"] (wu K dG):=by
 delta dG
 refine qV (mk:=true) (al:=true) (r:=fI) M.e_meeting_sets Si rfl rfl (by decide) fun f cdv A outer s H E hr=>?_
 delta fI
 exact(se (be (GQ (Az (N:=["nails"]) (js:=[none]) cy (mJ (kn M) (hr.mono (by decide)) (by rfl) (ag (ae 0) ar)))))
 (j9 (aJ 1 Si.nd (d_ (N:=["nails"]) (js:=[none]) cy (by rfl) (cC (xo (iT M) (ag (ae 0) ar))) (fun _ _ _ _=>(by delta aT;exact(aK 0 (show(["nails"]:List Str).Nodup by decide+kernel)))) (fun _ _ _ _=>(by delta aU;exact(xo (jF M) (ag (ae 0) ar))))))
 (j9 (aJ 2 Si.nd (xo (km M) (ag (ae 0) ar)))
 (be (tX (kj M) (hr.mono (by decide)) (by rfl) (ag (ae 2) ar))))))
theorem Sj:FnScope ["cord","nails"] ["cord"] (ak ir):=by and_intros
theorem oa(M:Md K mg):OwnR P w K mg base 2 "falling_sets" ["cord"] (wu K dH):=by
 delta dH
 refine qV (mk:=true) (al:=true) (r:=hW) M.e_falling_sets Sj rfl rfl (by decide) fun f cdv A outer s H E hr=>?_
 delta hW
 exact(j9 (aJ 1 Sj.nd (xo (wQ M) (ag (ae 0) ar)))
 (be (tX (kj M) (hr.mono (by decide)) (by rfl) (ag (ae 1) ar))))
theorem Sk:FnScope ["sets"] ["sets"] (ak fk):=by and_intros
theorem eS(M:Md K mg):Own P w K mg base 4 "least_or_no_rule" ["sets"] (gw K aQ):=by
 obtain⟨C_NoNails,m_NoNails,e_NoNails⟩:=M.XX.e_NoNails
 obtain⟨C_NoRule,m_NoRule,t_NoRule,z_NoRule⟩:=M.XX.c_NoRule
 delta aQ
 refine fD (g:=dD) M.e_least_or_no_rule Sk rfl rfl (by decide) fun f cdv A outer s H E hr=>?_
 delta dD
 exact(ao (JT rfl
 (ao (aM (xo (iT M) (ag (ae 0) ar))))))
theorem ko(M:Md K mg):OwnR P w K mg base 4 "least_or_no_rule" ["sets"] (wu K bI):=by
 obtain⟨C_NoNails,m_NoNails,e_NoNails⟩:=M.XX.e_NoNails
 obtain⟨C_NoRule,m_NoRule,t_NoRule,z_NoRule⟩:=M.XX.c_NoRule
 delta bI
 refine qV (mk:=true) (al:=true) (r:=fe) M.e_least_or_no_rule Sk rfl rfl (by decide) fun f cdv A outer s H E hr=>?_
 delta fe
 exact(be (GP rfl rfl rfl (by rfl) (by exact m_NoNails) e_NoNails (fun W=>(be (Ef (kn M) (hr.mono (by decide)) (by rfl) (ag (ae 0) ar)))) (by rfl) z_NoRule))
theorem Sm:FnScope ["thing"] ["thing"] (ak jD):=by and_intros
theorem la(M:Md K mg):Own P w K mg base 5 "check_rule" ["thing"] (gw K cq):=by
 obtain⟨C_NoRule,m_NoRule,t_NoRule,z_NoRule⟩:=M.XX.c_NoRule
 delta cq
 refine fD (g:=gN) M.e_check_rule Sm rfl rfl (by decide) fun f cdv A outer s H E hr=>?_
 delta gN
 exact(aj (cc (tD (pK (gv (d7 (lC .list (by rfl) (by exact M.B.isinstance) (ae 0) (by rfl) (by exact M.B.list) PyProof.Rows.boot_list))) (lB (gC hr.units (fb (by rfl) (by exact M.B.len) (ag (ae 0) ar)) au))))
 (ao ef)
 aR)
 (aj (cc (jI hr.units (xo (eS M) (ag (ae 0) ar)) (ae 0))
 (ao ef)
 aR)
 (ao (cc (gC hr.units (gY (ae 0) au) aV)
 (ao ef)
 aR))))
theorem qw(M:Md K mg):OwnR P w K mg base 5 "check_rule" ["thing"] (wu K bv):=by
 obtain⟨C_NoRule,m_NoRule,t_NoRule,z_NoRule⟩:=M.XX.c_NoRule
 delta bv
 refine qV (mk:=true) (al:=true) (r:=gO) M.e_check_rule Sm rfl rfl (by decide) fun f cdv A outer s H E hr=>?_
 delta gO
 exact(se (be (oH (tD (pK (gv (d7 (lC .list (by rfl) (by exact M.B.isinstance) (ae 0) (by rfl) (by exact M.B.list) PyProof.Rows.boot_list))) (lB (gC hr.units (fb (by rfl) (by exact M.B.len) (ag (ae 0) ar)) au)))) (be (gj (by rfl) (by rfl) z_NoRule))))
 (j9 (cc (tD (pK (gv (d7 (lC .list (by rfl) (by exact M.B.isinstance) (ae 0) (by rfl) (by exact M.B.list) PyProof.Rows.boot_list))) (lB (gC hr.units (fb (by rfl) (by exact M.B.len) (ag (ae 0) ar)) au))))
 (ao ef)
 aR)
 (se (be (EG (EF (mJ (ko M) (hr.mono (by decide)) (by rfl) (ag (ae 0) ar))) (oH (jI hr.units (xo (eS M) (ag (ae 0) ar)) (ae 0)) (be (gj (by rfl) (by rfl) z_NoRule)))))
 (j9 (cc (jI hr.units (xo (eS M) (ag (ae 0) ar)) (ae 0))
 (ao ef)
 aR)
 (be (oH (gC hr.units (gY (ae 0) au) aV) (be (gj (by rfl) (by rfl) z_NoRule))))))))
theorem Sn:FnScope ["number"] ["number"] (ak jE):=by and_intros
theorem rk(M:Md K mg):Own P w K mg base 1 "first_half" ["number"] (gw K dO):=by
 delta dO
 refine fD (g:=gP) M.e_first_half Sn rfl rfl (by decide) fun f cdv A outer s H E hr=>?_
 delta gP
 exact(ao (aM (gG (bF (ae 0) au) au)))
theorem Sq:FnScope ["number","middle"] ["number"] (ak iu):=by and_intros
theorem i9(M:Md K mg):∀k:Nat,Own P w K mg base (1+k+1) "round_pieces" ["number"] (gw K (cw k))
 | 0=>DY M.e_round_pieces Sq
 |k+1=>by
  have D_round_pieces:=i9 M k
  show Own P w K mg base (1+k+1+1) "round_pieces" ["number"] (gw K (gy 1 2 (bP (cw k))))
  generalize cw k=self at D_round_pieces ⊢
  refine fD (k:=1+k+1) (g:=bP self) M.e_round_pieces Sq rfl rfl (by decide) fun f cdv A outer s H E hr=>?_
  delta bP
  exact(aj (cc (gC hr.units (ae 0) au)
 (ao (aM au))
 aR)
 (aj (aJ 1 Sq.nd (xo (rk M) (ag (ae 0) ar)))
 (ao (aM (gu au (bF (yA D_round_pieces hr (by rfl) (ag (ae 1) ar)) (yA D_round_pieces hr (by rfl) (ag (Dq (ae 0) (ae 1)) ar))))))))
theorem o6(M:Md K mg):Own P w K mg base 10 "round_pieces" ["number"] (gw K jN):=i9 M 8
theorem Sr:FnScope ["rule"] ["rule"] (ak gA):=by and_intros
theorem i_(M:Md K mg):Own P w K mg base 11 "pieces_needed" ["rule"] (gw K aI):=by
 delta aI
 refine fD (g:=dI) M.e_pieces_needed Sr rfl rfl (by decide) fun f cdv A outer s H E hr=>?_
 delta dI
 exact(aj (fY (xo (la M) (ag (ae 0) ar)))
 (ao (aM (JC (by rfl) (by rfl) (by exact M.B.sum) (ag (d_ (N:=["nails"]) (js:=[none]) cy (by rfl) (cC (xo (o5 M) (ag (ae 0) ar))) (fun _ _ _ _=>(by delta fg;exact(aK 0 (show(["nails"]:List Str).Nodup by decide+kernel)))) (fun _ _ _ _=>(by delta dE;exact(xo (o6 M) (ag (fb (by rfl) (by exact M.B.len) (ag (ae 0) ar)) ar))))) ar)))))
theorem iG(M:Md K mg):OwnR P w K mg base 11 "pieces_needed" ["rule"] (wu K aN):=by
 delta aN
 refine qV (mk:=true) (al:=true) (r:=e8) M.e_pieces_needed Sr rfl rfl (by decide) fun f cdv A outer s H E hr=>?_
 delta e8
 exact(se (be (tX (qw M) (hr.mono (by decide)) (by rfl) (ag (ae 0) ar)))
 (j9 (fY (xo (la M) (ag (ae 0) ar)))
 (be (Ay (JN (by rfl) (by exact M.B.sum) PyProof.Rows.boot_sum (Az (N:=["nails"]) (js:=[none]) cy (mJ (n_ M) (hr.mono (by decide)) (by rfl) (ag (ae 0) ar))))))))
theorem Ss:FnScope ["rule","cord","nails"] ["rule"] (ak nY):=by and_intros
theorem wS(M:Md K mg):OwnR P w K mg base 12 "cord_of" ["rule"] (wu K fi):=by
 obtain⟨t_MOST_PIECES,G_MOST_PIECES⟩:=M.G_MOST_PIECES
 obtain⟨C_TooLong,m_TooLong,t_TooLong,z_TooLong⟩:=M.XX.c_TooLong
 delta fi
 refine qV (mk:=true) (al:=true) (r:=nT) M.e_cord_of Ss rfl rfl (by decide) fun f cdv A outer s H E hr=>?_
 delta nT
 exact(be (EG (EF (mJ (iG M) (hr.mono (by decide)) (by rfl) (ag (ae 0) ar))) (oH (rS .gt (xo (i_ M) (ag (ae 0) ar)) (tU (by rfl) (by exact G_MOST_PIECES))) (be (gj (by rfl) (by rfl) z_TooLong)))))
theorem Su:FnScope ["cord"] ["cord"] (ak nZ):=by and_intros
theorem wT(M:Md K mg):OwnR P w K mg base 3 "rule_of" ["cord"] (wu K fj):=by
 obtain⟨C_NoRule,m_NoRule,t_NoRule,z_NoRule⟩:=M.XX.c_NoRule
 delta fj
 refine qV (mk:=true) (al:=true) (r:=nU) M.e_rule_of Su rfl rfl (by decide) fun f cdv A outer s H E hr=>?_
 delta nU
 exact(se (be (oH (d7 (xo (qv M) (ag (ae 0) ar))) (be (gj (by rfl) (by rfl) z_NoRule))))
 (j9 (cc (d7 (xo (qv M) (ag (ae 0) ar)))
 (ao ef)
 aR)
 (be (Ef (oa M) (hr.mono (by decide)) (by rfl) (ag (ae 0) ar)))))
theorem Sy:FnScope ["_law_script","_law_k"] ["_law_script","_law_k"] (ak qr):=by and_intros
theorem ja(M:Md K mg):Own P w K mg base 1 "_law_at" ["_law_script","_law_k"] (gw K bp):=by
 delta bp
 refine fD (g:=mQ) M.e_law_at Sy rfl rfl (by decide) fun f cdv A outer s H E hr=>?_
 delta mQ
 exact(aj (cc (rS .lt (ae 1) (fb (by rfl) (by exact M.B.len) (ag (ae 0) ar)))
 (ao (aM (gY (ae 0) (ae 1))))
 aR)
 (ao (aM au)))
theorem Sz:FnScope ["_law_cell","_law_k","_law_one"] ["_law_cell","_law_k"] (ak n4):=by and_intros
theorem zC(M:Md K mg):Own P w K mg base 1 "_law_mix" ["_law_cell","_law_k"] (gw K dF):=by
 delta dF
 refine fD (g:=kR) M.e_law_mix Sz rfl rfl (by decide) fun f cdv A outer s H E hr=>?_
 delta kR
 exact(aj (aJ 2 Sz.nd (cA (bF (bF (gu (cA (ae 0) (Dr au au)) (bF au (gu au (ae 1)))) (gu au (ae 1))) au) au))
 (ao (aM (cA (gu (ae 2) (bF (bF (gG (ae 2) au) (gu au (ae 1))) au)) au))))
theorem R0:FnScope ["_law_e","_law_kinds","_law_words"] ["_law_e"] (ak lX):=by and_intros
theorem wV(M:Md K mg):OwnH P w K mg base 1 "_law_word" ["_law_e"] (gw K bQ):=by
 obtain⟨C_NoCord,m_NoCord,t_NoCord⟩:=M.XX.c_NoCord
 obtain⟨C_NoNails,m_NoNails,t_NoNails,z_NoNails⟩:=M.XX.c_NoNails
 obtain⟨C_NoRule,m_NoRule,t_NoRule,z_NoRule⟩:=M.XX.c_NoRule
 obtain⟨C_NoText,m_NoText,t_NoText⟩:=M.XX.c_NoText
 obtain⟨C_NoMove,m_NoMove,t_NoMove⟩:=M.XX.c_NoMove
 obtain⟨C_NoLine,m_NoLine,t_NoLine⟩:=M.XX.c_NoLine
 obtain⟨C_NoName,m_NoName,t_NoName⟩:=M.XX.c_NoName
 obtain⟨C_NoNumber,m_NoNumber,t_NoNumber⟩:=M.XX.c_NoNumber
 obtain⟨C_TooMany,m_TooMany,t_TooMany,z_TooMany⟩:=M.XX.c_TooMany
 obtain⟨C_TooLong,m_TooLong,t_TooLong,z_TooLong⟩:=M.XX.c_TooLong
 obtain⟨v_ValueError,t_ValueError⟩:=M.XX.v_ValueError
 delta bQ
 refine MX (g:=lQ) M.e_law_word R0 rfl rfl (by decide) fun f cdv A outer s H E hr=>?_
 refine BodyOk.of ?_
 refine pq [0] (DL.cons (f8 (by rfl) (by exact M.B.isinstance) (ae 0) (by rfl) (by exact m_NoCord) t_NoCord) rfl (DL.cons (f8 (by rfl) (by exact M.B.isinstance) (ae 0) (by rfl) (by exact m_NoNails) t_NoNails) rfl (DL.cons (f8 (by rfl) (by exact M.B.isinstance) (ae 0) (by rfl) (by exact m_NoRule) t_NoRule) rfl (DL.cons (f8 (by rfl) (by exact M.B.isinstance) (ae 0) (by rfl) (by exact m_NoText) t_NoText) rfl DL.nil)))) fun e0 hd0=>?_
 refine pq [1,1] (DL.cons (f8 (by rfl) (by exact M.B.isinstance) (ae 0) (by rfl) (by exact m_NoMove) t_NoMove) rfl (DL.cons (f8 (by rfl) (by exact M.B.isinstance) (ae 0) (by rfl) (by exact m_NoLine) t_NoLine) rfl (DL.cons (f8 (by rfl) (by exact M.B.isinstance) (ae 0) (by rfl) (by exact m_NoName) t_NoName) rfl DL.nil))) fun e1 m8=>?_
 refine pq [2,1] (DL.cons (f8 (by rfl) (by exact M.B.isinstance) (ae 0) (by rfl) (by exact m_NoNumber) t_NoNumber) rfl (DL.cons (f8 (by rfl) (by exact M.B.isinstance) (ae 0) (by rfl) (by exact m_TooMany) t_TooMany) rfl (DL.cons (f8 (by rfl) (by exact M.B.isinstance) (ae 0) (by rfl) (by exact m_TooLong) t_TooLong) rfl DL.nil))) fun e2 vE=>?_
 refine uK [4] (fun _=>(DL.cons aV rfl (DL.cons aV rfl (DL.cons aV rfl (DL.cons aV rfl (DL.cons aV rfl (DL.cons aV rfl (DL.cons aV rfl (DL.cons aV rfl (DL.cons aV rfl (DL.cons aV rfl DL.nil))))))))))) fun e3 LB=>?_
 refine⟨?_⟩
 delta lQ
 exact(aj (aJ 1 R0.nd (dg hd0))
 (aj (aJ 1 R0.nd (bF (ae 1) (dg m8)))
 (aj (aJ 1 R0.nd (bF (ae 1) (dg vE)))
 (aj (cc (tD (pK (gv (d7 (GK (by rfl) (by exact M.B.isinstance) (ae 0) (by rfl) (by exact v_ValueError) PyProof.Rows.Boot.«ValueError» t_ValueError))) (lB (jI hr.units (B8 1) au))))
 (ao (aM aV))
 aR)
 (aj (aJ 2 R0.nd (dg (LB _)))
 (ao (aM (gY (ae 2) (B9 1)))))))))
theorem R3:FnScope ["_law_one","_law_sets","_law_other"] ["_law_one","_law_sets"] (ak iv):=by and_intros
theorem o8(M:Md K mg):Own P w K mg base 1 "_law_has_part" ["_law_one","_law_sets"] (gw K b_):=by
 delta b_
 refine fD (g:=eI) M.e_law_has_part R3 rfl rfl (by decide) fun f cdv A outer s H E hr=>?_
 delta eI
 exact(aj (fB PassesOwn.never (by rfl) (cC (ae 1)) (by delta bn;exact(aK 2 R3.nd))
 (by delta aY;exact(ao (cc (d7 (Jz (by rfl) (by rfl) (by exact M.B.all) (ag (d_ (N:=["_law_nail","_law_one"]) (js:=[none,some 0]) gh (by rfl) (cC (ae 2)) (fun _ _ _ _=>(by delta cU;exact(aK 0 (show(["_law_nail","_law_one"]:List Str).Nodup by decide+kernel)))) (fun _ _ _ _=>(by delta bX;exact(Lu (ae 0) (ae 1))))) ar)))
 (ao (aM k8))
 aR))))
 (ao (aM k8)))
theorem R4:FnScope ["_law_sets","_law_kept","_law_size","_law_one"] ["_law_sets"] (ak kf):=by and_intros
theorem mS(M:Md K mg):Own P w K mg base 2 "_law_least" ["_law_sets"] (gw K cV):=by
 delta cV
 refine fD (g:=gl) M.e_law_least R4 rfl rfl (by decide) fun f cdv A outer s H E hr=>?_
 delta gl
 exact(aj (aJ 1 R4.nd (dg DL.nil))
 (aj (fB PassesOwn.never (by rfl) (BF (by rfl) (by exact M.B.range) (ag au (ag au ar))) (by delta dl;exact(aK 2 R4.nd))
 (by delta dm;exact(ao (fB PassesOwn.never (by rfl) (cC (nD (by rfl) (by exact M.B.sorted) (pO (N:=["_law_other","_law_size"]) (js:=[none,some 2]) gh (by rfl) (cC (ae 0)) (fun _ _ _ _=>(by delta cE;exact(aK 0 (show(["_law_other","_law_size"]:List Str).Nodup by decide+kernel)))) (fun _ _ _ _=>(by delta cG;exact(gC hr.units (fb (by rfl) (by exact M.B.len) (ag (ae 0) ar)) (ae 1)))) (fun _ _ _ _=>(by delta cF;exact(ae 0)))))) (by delta di;exact(aK 3 R4.nd))
 (by delta cH;exact(ao (cc (gv (d7 (xo (o8 M) (ag (ae 3) (ag (ae 1) ar)))))
 (ao (fY (iX 1 (ae 3))))
 aR)))))))
 (ao (aM (ae 1)))))
theorem R5:FnScope ["_law_script","_law_first","_law_nails_here","_law_sets","_law_cell","_law_k","_law_value","_law_one"] ["_law_script","_law_first","_law_nails_here"] (ak lY):=by and_intros
theorem wW(M:Md K mg):Own P w K mg base 3 "_law_rule" ["_law_script","_law_first","_law_nails_here"] (gw K ft):=by
 delta ft
 refine fD (g:=hZ) M.e_law_rule R5 rfl rfl (by decide) fun f cdv A outer s H E hr=>?_
 delta hZ
 exact(aj (aJ 3 R5.nd (dg DL.nil))
 (aj (fB PassesOwn.never (by rfl) (cC (bF (dg (DL.cons (xo (ja M) (ag (ae 0) (ag (ae 1) ar))) rfl DL.nil)) (tM (ae 0) (kI (bF (ae 1) au)) (kI (bF (ae 1) au))))) (by delta eY;exact(aK 4 R5.nd))
 (by delta c8;exact(ao (fB PassesOwn.never (by rfl) (gT (by rfl) (by exact M.B.range) (ag (bF au (cA (ae 4) au)) ar)) (by delta eW;exact(aK 5 R5.nd))
 (by delta eX;exact(aj (aJ 6 R5.nd (DU (gG (ae 4) au) (gu au (ae 5))))
 (aj (cc (rS .lt (Jl (by rfl) (by exact M.B.abs) (ag (ae 4) ar)) (Dr au au))
 (ao (aJ 6 R5.nd (xo (zC M) (ag (ae 4) (ag (bF au (ae 5)) ar)))))
 aR)
 (aj (aJ 7 R5.nd (kK (pO (N:=["_law_j","_law_nails_here","_law_value"]) (js:=[none,some 2,some 6]) gh (by rfl) (gT (by rfl) (by exact M.B.range) (ag (fb (by rfl) (by exact M.B.len) (ag (ae 2) ar)) ar)) (fun _ _ _ _=>(by delta eU;exact(aK 0 (show(["_law_j","_law_nails_here","_law_value"]:List Str).Nodup by decide+kernel)))) (fun _ _ _ _=>(by delta dQ;exact(gC hr.units (tK (DU (ae 2) (ae 0)) au) au))) (fun _ _ _ _=>(by delta dP;exact(gY (ae 1) (ae 0)))))))
 (ao (cc (jI hr.units (ae 7) aV)
 (ao (fY (iX 3 (ae 7))))
 aR))))))))))
 (ao (aM (xo (mS M) (ag (bF (ae 3) (dg (DL.cons (ae 2) rfl DL.nil))) ar))))))
theorem R6:FnScope ["_law_cell","_law_most","_law_some","_law_many_here","_law_step","_law_at_here"] ["_law_cell","_law_most"] (ak kh):=by and_intros
theorem uM(M:Md K mg):Own P w K mg base 1 "_law_nails" ["_law_cell","_law_most"] (gw K eP):=by
 delta eP
 refine fD (g:=gm) M.e_law_nails R6 rfl rfl (by decide) fun f cdv A outer s H E hr=>?_
 refine yB 2 [1,3,5,7,9,11] rfl rfl fun es hes=>?_
 delta gm
 exact(aj (aJ 2 R6.nd aV)
 (aj (aJ 3 R6.nd (bF au (cA (ae 0) (ae 1))))
 (aj (aJ 4 R6.nd (gY (DC (Ap hes)) (cA (gG (ae 0) (ae 1)) au)))
 (aj (aJ 5 R6.nd (cA (gG (gG (ae 0) (ae 1)) au) au))
 (ao (aM (kK (nD (by rfl) (by exact M.B.sorted) (d_ (N:=["_law_k","_law_some","_law_at_here","_law_step"]) (js:=[none,some 2,some 5,some 4]) gh (by rfl) (gT (by rfl) (by exact M.B.range) (ag (ae 3) ar)) (fun _ _ _ _=>(by delta eJ;exact(aK 0 (show(["_law_k","_law_some","_law_at_here","_law_step"]:List Str).Nodup by decide+kernel)))) (fun _ _ _ _=>(by delta dq;exact(gY (ae 1) (cA (bF (ae 2) (gu (ae 3) (ae 0))) au)))))))))))))
theorem R7:FnScope ["_law_deed","_law_thing","_law_found","_law_e"] ["_law_deed","_law_thing"] (ak lZ):=by and_intros
theorem eK(M:Md K mg):Own P w K mg base 13 "_law_said" ["_law_deed","_law_thing"] (gw K aB):=by
 have f_rule_of:=M.XX.f_rule_of
 have f_cord_of:=M.XX.f_cord_of
 have f_pieces_needed:=M.XX.f_pieces_needed
 obtain⟨C_HangError,m_HangError,e_HangError⟩:=M.XX.e_HangError
 delta aB
 refine fD (g:=lR) M.e_law_said R7 rfl rfl (by decide) fun f cdv A outer s H E hr=>?_
 delta lR
 exact(aj (aJ 2 R7.nd aV)
 (aj (GJ rfl R7.nd rfl rfl rfl (by rfl) (by exact m_HangError) e_HangError (ao (aJ 2 R7.nd (Ep 0 (.cons (i_ M) (hr.mono (by decide)) f_pieces_needed .nil) (ag (ae 1) ar)))) (fun W=>(be (GU 0 (.cons (iG M) (hr.mono (by decide)) f_pieces_needed (.cons (wS M) (hr.mono (by decide)) f_cord_of (.cons (wT M) (hr.mono (by decide)) f_rule_of .nil))) (ag (ae 1) ar)))) (fun ea oe C ex hx=>(ao (aM (GL (wV M) ((Room.mark hr _).mono (by decide)) (by rfl) (ag (ae 3) ar))))))
 (ao (aM (ae 2)))))
theorem R8:FnScope ["_law_rule_here","_law_cell","_law_rest","_law_some","_law_at_here"] ["_law_rule_here","_law_cell"] (ak iR):=by and_intros
theorem qx(M:Md K mg):Own P w K mg base 1 "_law_no_rule" ["_law_rule_here","_law_cell"] (gw K du):=by
 delta du
 refine fD (g:=dR) M.e_law_no_rule R8 rfl rfl (by decide) fun f cdv A outer s H E hr=>?_
 refine BodyOk.of ?_
 refine uK [3,1,0,1,0] (fun _=>(DL.cons Dk rfl (DL.cons au rfl (DL.cons k8 rfl (DL.cons (dg (DL.cons aV rfl DL.nil)) rfl (DL.cons aV rfl (DL.cons aV rfl (DL.cons aV rfl (DL.cons aV rfl (DL.cons aV rfl (DL.cons aV rfl DL.nil))))))))))) fun e0 hd0=>?_
 refine uK [4,1,0,0] (fun _=>(DL.cons Dk rfl (DL.cons aV rfl (DL.cons aV rfl (DL.cons (qc DL.nil) rfl (DL.cons (qc (DL.cons aV rfl DL.nil)) rfl (DL.cons LG rfl (DL.cons (dg DL.nil) rfl (DL.cons au rfl DL.nil))))))))) fun e1 m8=>?_
 refine pq [6,1,0,1] (DL.cons (bF (gY (ae 0) (cA (ae 2) (fb (by rfl) (by exact M.B.len) (ag (ae 0) ar)))) aV) rfl DL.nil) fun e2 vE=>?_
 refine⟨?_⟩
 delta dR
 exact(aj (aJ 2 R8.nd (gG (ae 1) au))
 (aj (aJ 3 R8.nd (Gx (by rfl) (by exact M.B.list) (ae 0)))
 (aj (aJ 4 R8.nd (cA (gG (ae 2) au) (bF (fb (by rfl) (by exact M.B.len) (ag (ae 0) ar)) au)))
 (aj (cc (gC hr.units (cA (ae 1) au) au)
 (aj (si 3 (ae 4) (gY (dg (hd0 _)) (cA (ae 2) au)))
 (ao (aM (ae 3))))
 aR)
 (aj (cc (gC hr.units (cA (ae 1) au) au)
 (ao (aM (gY (dg (m8 _)) (cA (ae 2) au))))
 aR)
 (aj (cc (tD (DA (gC hr.units (cA (ae 1) au) au) (Aj (rS .gt (fb (by rfl) (by exact M.B.len) (ag (ae 0) ar)) au))))
 (aj (fY (pQ 3))
 (ao (aM (ae 3))))
 aR)
 (aj (cc (gC hr.units (cA (ae 1) au) au)
 (ao (aM (bF (ae 3) (dg vE))))
 aR)
 (aj (si 3 (ae 4) (gY (ae 0) (cA (ae 2) (fb (by rfl) (by exact M.B.len) (ag (ae 0) ar)))))
 (ao (aM (ae 3)))))))))))
theorem R9:FnScope ["_law_cell","_law_letters","_law_many_here"] ["_law_cell"] (ak l4):=by and_intros
theorem wX(M:Md K mg):Own P w K mg base 1 "_law_many" ["_law_cell"] (gw K fu):=by
 delta fu
 refine fD (g:=ie) M.e_law_many R9 rfl rfl (by decide) fun f cdv A outer s H E hr=>?_
 delta ie
 exact(aj (aJ 1 R9.nd aV)
 (aj (aJ 2 R9.nd (bF au (cA (ae 0) au)))
 (aj (cc (gC hr.units (cA (gG (ae 0) au) au) au)
 (ao (aM (dg (DL.cons (tM (ae 1) Al (kI (ae 2))) rfl DL.nil))))
 aR)
 (ao (aM (d_ (N:=["_law_letter"]) (js:=[none]) cy (by rfl) (cC (tM (ae 1) Al (kI (ae 2)))) (fun _ _ _ _=>(by delta iO;exact(aK 0 (show(["_law_letter"]:List Str).Nodup by decide+kernel)))) (fun _ _ _ _=>(by delta iP;exact(ae 0)))))))))
theorem Ra:FnScope ["_law_cell","_law_letters","_law_nails_here"] ["_law_cell"] (ak l6):=by and_intros
theorem wY(M:Md K mg):Own P w K mg base 3 "_law_long" ["_law_cell"] (gw K fv):=by
 delta fv
 refine fD (g:=ig) M.e_law_long Ra rfl rfl (by decide) fun f cdv A outer s H E hr=>?_
 delta ig
 exact(aj (aJ 1 Ra.nd aV)
 (aj (aJ 2 Ra.nd (d_ (N:=["_law_k","_law_letters","_law_cell"]) (js:=[none,some 1,some 0]) gh (by rfl) (gT (by rfl) (by exact M.B.range) (ag au ar)) (fun _ _ _ _=>(by delta dS;exact(aK 0 (show(["_law_k","_law_letters","_law_cell"]:List Str).Nodup by decide+kernel)))) (fun _ _ _ _=>(by delta c9;exact(gY (ae 1) (cA (bF (cA (ae 2) au) (gu au (ae 0))) au))))))
 (ao (aM (xo (mS M) (ag (d_ (N:=["_law_k","_law_nails_here"]) (js:=[none,some 2]) gh (by rfl) (gT (by rfl) (by exact M.B.range) (ag au ar)) (fun _ _ _ _=>(by delta dU;exact(aK 0 (show(["_law_k","_law_nails_here"]:List Str).Nodup by decide+kernel)))) (fun _ _ _ _=>(by delta c_;exact(kK (nD (by rfl) (by exact M.B.sorted) (tM (ae 1) (kI (gu au (ae 0))) (kI (bF (gu au (ae 0)) au)))))))) ar))))))
theorem Rb:FnScope ["_law_script","_law_nails_here","_law_rule_here","_law_odd","_law_many_here","_law_long_here","_law_cord","_law_back","_law_turn","_law_deed"] ["_law_script"] (ak qu):=by and_intros
theorem JU{f0:Addr}  (D:Fun K "law" "law" qu f0 fd) (M:Md K mg):FnOk P w K mg base xK 14 f0 fd ["_law_script"] (gw K lS):=by
 have f_pieces_needed:=M.XX.f_pieces_needed
 have f_cord_of:=M.XX.f_cord_of
 have f_rule_of:=M.XX.f_rule_of
 delta lS
 refine NG (g:=wP) D Rb rfl rfl (by decide) fun cdv A outer s H E hr=>?_
 delta wP
 exact(aj (aJ 1 Rb.nd (xo (uM M) (ag (xo (ja M) (ag (ae 0) (ag au ar))) (ag au ar))))
 (aj (aJ 2 Rb.nd (xo (wW M) (ag (ae 0) (ag au (ag (ae 1) ar)))))
 (aj (aJ 3 Rb.nd (xo (qx M) (ag (ae 2) (ag (xo (ja M) (ag (ae 0) (ag au ar))) ar))))
 (aj (aJ 4 Rb.nd (xo (wX M) (ag (xo (ja M) (ag (ae 0) (ag au ar))) ar)))
 (aj (aJ 5 Rb.nd (xo (wY M) (ag (xo (ja M) (ag (ae 0) (ag au ar))) ar)))
 (aj (vX 6 Rb.nd (N:=["_law_k","_law_letter"]) (js:=[none,none]) cy (by rfl) (wD (by rfl) (by exact M.B.enumerate) aV) (fun _ _ _ _=>(by delta qk;exact(tF (by rfl) (gg (aK 0 (show(["_law_k","_law_letter"]:List Str).Nodup by decide+kernel)) (gg (aK 1 (show(["_law_k","_law_letter"]:List Str).Nodup by decide+kernel)) pe))))) (fun _ _ _ _=>(by delta ql;exact(qc (DL.cons (ae 1) rfl (DL.cons (bF au (cA (ae 0) au)) rfl DL.nil))))))
 (aj (vX 7 Rb.nd (N:=["_law_k","_law_letter"]) (js:=[none,none]) cy (by rfl) (wD (by rfl) (by exact M.B.enumerate) aV) (fun _ _ _ _=>(by delta qm;exact(tF (by rfl) (gg (aK 0 (show(["_law_k","_law_letter"]:List Str).Nodup by decide+kernel)) (gg (aK 1 (show(["_law_k","_law_letter"]:List Str).Nodup by decide+kernel)) pe))))) (fun _ _ _ _=>(by delta qo;exact(qc (DL.cons (ae 1) rfl (DL.cons (Dq (Ds au) (cA (ae 0) au)) rfl DL.nil))))))
 (aj (fY (pQ 7))
 (aj (fB PassesOwn.never (by rfl) (gT (by rfl) (by exact M.B.range) (ag au ar)) (by delta io;exact(aK 8 Rb.nd))
 (by delta ip;exact(aj (fB PassesOwn.never (by rfl) (cC (dg (DL.cons (lJ (by rfl) f_pieces_needed) rfl (DL.cons (lJ (by rfl) f_cord_of) rfl DL.nil)))) (by delta ii;exact(aK 9 Rb.nd))
 (by delta ij;exact(ao (cc (tD (pK (jI hr.units (xo (eK M) (ag (ae 9) (ag (ae 3) ar))) aV) (lB (jI hr.units (xo (eK M) (ag (ae 9) (ag (ae 4) ar))) aV))))
 (ao (aM k8))
 aR))))
 (aj (cc (tD (pK (jI hr.units (xo (eK M) (ag (lJ (by rfl) f_pieces_needed) (ag (ae 5) ar))) au) (lB (jI hr.units (xo (eK M) (ag (lJ (by rfl) f_cord_of) (ag (ae 5) ar))) aV))))
 (ao (aM k8))
 aR)
 (ao (cc (tD (pK (jI hr.units (xo (eK M) (ag (lJ (by rfl) f_rule_of) (ag (ae 6) ar))) aV) (lB (jI hr.units (xo (eK M) (ag (lJ (by rfl) f_rule_of) (ag (bF (ae 6) (ae 7)) ar))) aV))))
 (ao (aM k8))
 aR))))))
 (ao (aM (Dv hr.units (xo (eK M) (ag (lJ (by rfl) f_rule_of) (ag (dg DL.nil) ar))) aV))))))))))))
end
end Nhk55
namespace Nhk55
open PySem L2 Nh PL
theorem Jn{a b:Prop}(x:a)(y:b):a∧b:=⟨x,y⟩
def M4:=Jn @gy.eq_1 <|Jn @DK.eq_1 <|Jn @dW.eq_1 <|Jn @iC.eq_1 <|Jn @iC.eq_2 <|Jn @iC.eq_3 <|Jn @iC.eq_4 <|Jn @iC.eq_5 <|Jn @fL.eq_1 <|Jn @fL.eq_2 <|Jn @fL.eq_3 <|Jn @fL.eq_4 <|Jn @fL.eq_5 <|Jn @fL.eq_6 <|Jn @fL.eq_7 <| @aL.eq_1
def M5:=Jn @aW.eq_1 <|Jn @fA.eq_1 <|Jn @bq.eq_1 <|Jn @bT.eq_1 <|Jn @aH.eq_1 <|Jn @PL.settle.eq_1 <|Jn @PL.settle.eq_2 <|Jn @PL.settle.eq_3 <|Jn @Sl.isAl.eq_1 <|Jn @Sl.isAl.eq_2 <|Jn @Sl.isAl.eq_3 <|Jn @Sl.isBr.eq_1 <|Jn @Sl.isBr.eq_2 <|Jn @frz.eq_1 <|Jn @frz.eq_2 <| @frz.eq_3
def M6:=Jn @frz.eq_4 <|Jn @frz.eq_5 <|Jn @frz.eq_6 <|Jn @aa.eq_1 <|Jn @pC.eq_1 <|Jn @ah.eq_1 <|Jn @bK.eq_1 <|Jn @Jc.eq_1 <|Jn @iH.eq_1 <|Jn @df.eq_1 <|Jn @cJ.eq_1 <|Jn @vR.eq_1 <|Jn @kY.eq_1 <|Jn @qP.eq_1 <|Jn @m5.eq_1 <| @lA.eq_1
def M7:=Jn @jf.eq_1 <|Jn @Dm.eq_1 <|Jn @Dm.eq_2 <|Jn @look.eq_1 <|Jn @look.eq_2 <|Jn @fq.eq_1 <|Jn @fq.eq_2 <|Jn @Sl.val.eq_1 <|Jn @Sl.val.eq_2 <|Jn @Sl.val.eq_3 <|Jn @Sl.val.eq_4 <|Jn @Sl.val.eq_5 <|Jn @pH.eq_1 <|Jn @pH.eq_2 <|Jn @Gh.eq_1 <| @Gh.eq_2
def M8:=Jn @Gh.eq_3 <|Jn @d5.eq_1 <|Jn @dZ.eq_1 <|Jn @oV.eq_1 <|Jn @oV.eq_2 <|Jn @oV.eq_3 <|Jn @oV.eq_4 <|Jn @oV.eq_5 <|Jn @oV.eq_6 <|Jn @oV.eq_7 <|Jn @nw.eq_1 <|Jn @eQ.eq_1 <|Jn @Dy.eq_1 <|Jn @ai.eq_1 <|Jn @af.eq_1 <| @cr.eq_1
def M9:=Jn @aw.eq_1 <|Jn @tE.eq_1 <|Jn @cK.eq_1 <|Jn @cb.eq_1 <|Jn @d8.eq_1 <|Jn @d8.eq_2 <|Jn @d8.eq_3 <|Jn @d8.eq_4 <|Jn @vT.eq_1 <|Jn @vT.eq_2 <|Jn @pM.eq_1 <|Jn @oW.eq_1 <|Jn @oW.eq_2 <|Jn @Mj.eq_1 <|Jn @Mj.eq_2 <| @Mj.eq_3
def M_:=Jn @Mj.eq_4 <|Jn @Mj.eq_5 <|Jn @Mj.eq_6 <|Jn @Mj.eq_7 <|Jn @Ty.is.eq_1 <|Jn @Ty.is.eq_2 <|Jn @Ty.is.eq_3 <|Jn @Ty.is.eq_4 <|Jn @Ty.is.eq_5 <|Jn @Ty.is.eq_6 <|Jn @Ty.is.eq_7 <|Jn @Ty.is.eq_8 <|Jn @Ty.is.eq_9 <|Jn @pL.eq_1 <|Jn @gf.eq_1 <| @tB.eq_1
def Na:=Jn @am.eq_1 <|Jn @gH.eq_1 <|Jn @aO.eq_1 <|Jn @d9.eq_1 <|Jn @tH.eq_1 <|Jn @eR.eq_1 <|Jn @List.length_cons.{0} <|Jn @List.length_nil.{0} <|Jn @List.map_cons.{0,0} <|Jn @List.map_nil.{0,0} <|Jn @List.replicate.eq_1.{0} <|Jn @List.replicate.eq_2.{0} <|Jn @List.cons_append.{0} <|Jn @List.nil_append.{0} <|Jn @List.getElem?_cons_zero.{0} <| @List.getElem?_cons_succ.{0}
def Nb:=Jn @List.set_cons_zero.{0} <|Jn @List.set_cons_succ.{0} <|Jn @Option.bind_some.{0,0} <|Jn @Option.map_some.{0,0} <|Jn @Option.map_none.{0,0} <|Jn @Option.any_some.{0} <|Jn @Nat.sub_self <|Jn @Nat.zero_add <|Jn @if_true.{1} <|Jn @if_false.{1} <|Jn @Bool.false_and <|Jn @Bool.true_and <|Jn @Bool.and_true <|Jn @Bool.true_or <|Jn @Bool.or_true <| @Bool.or_false
def Nc:=Jn @Bool.not_true <|Jn @Bool.not_false <|Jn @Bool.false_eq_true <|Jn @decide_true <|Jn @decide_false <|Jn @Lp <|Jn @BI <|Jn @DM <|Jn @fc.eq_1 <|Jn @fc.eq_2 <|Jn @fc.eq_3 <|Jn @fc.eq_4 <|Jn @fc.eq_5 <|Jn @frzAll.eq_1 <|Jn @bw.eq_1 <| @g5.eq_1
def LO:=Jn @g5.eq_2 <|Jn @g5.eq_3 <|Jn @Cm.i.eq_1 <|Jn @Cm.i.eq_2 <|Jn @Cm.i.eq_3 <|Jn @Cm.i.eq_4 <|Jn @Cm.s.eq_1 <|Jn @Cm.s.eq_2 <|Jn @Cm.s.eq_3 <|Jn @Cm.s.eq_4 <|Jn @oX.eq_1 <|Jn @DT.eq_1 <|Jn @vZ.eq_1 <|Jn @Jx.eq_1 <|Jn @Lr.eq_1 <| @Lr.eq_2
def LP:=Jn @Lr.eq_3 <|Jn @Lr.eq_4 <|Jn @Lr.eq_5 <|Jn @Lr.eq_6 <|Jn @iD.eq_1 <|Jn @At <|Jn @Int.cast_ofNat_Int <|Jn @Gz.eq_1 <|Jn @Gz.eq_2 <|Jn @BL.eq_1 <|Jn @BL.eq_2 <| @fZ.eq_1
def CO:=Jn M4 <|Jn M5 <|Jn M6 <|Jn M7 <|Jn M8 <|Jn M9 <|Jn M_ <|Jn Na <|Jn Nb <|Jn Nc <|Jn LO <|LP
local macro_rules | `(tactic|simp! [$xs,*])=>`(tactic|simp only[CO,Nat.reduceAdd,Nat.reduceSub,Nat.reduceLT,Nat.reduceLeDiff,List.map_append,$xs,*])
local macro_rules | `(tactic|dsimp! [$xs,*])=>`(tactic|simp only[CO,Nat.reduceAdd,Nat.reduceSub,Nat.reduceLT,Nat.reduceLeDiff,List.map_append,Int.reduceLT,Int.reduceLE,Int.reduceNeg,Int.reduceToNat,Int.reducePow,and_self,$xs,*])
theorem sC(ns:List Int)(k:Nat):bp [.list (ns.map .int),.int k]=some (.sh (.int (ns.getD k 0))):=by
 simp! [bp,mQ]
 by_cases h:k < ns.length
 ·simp[h,gZ,fL,fc,iC]
 ·simp[h,List.getElem?_eq_none (Nat.le_of_not_lt h),fL,fc,iC]
theorem zD(cell:Int)(k:Nat)(h:k≤1000000):∃z:Int,dF [.int cell,.int k]=some (.sh (.int z)):=by
 have a1:∀i:Int,fN i (62089911+2*(k:Int))=true:=fun i=>ph (by omega) (by omega)
 have a2:fN 982451653 (k:Int)=true:=ph (by omega) (by omega)
 have a3:fN 2 (k:Int)=true:=ph (by omega) (by omega)
 have a4:∀i j:Int,fN (i % 4294967291) j=true:=fun i j=>mE (by have:=Int.emod_nonneg i (show(4294967291:Int)≠0 by decide);omega) (by have:=Int.emod_lt_of_pos i (show(0:Int) < 4294967291 by decide);omega)
 have d1:ou 1024=true:=by decide
 simp! [dF,kR,a1,a2,a3,a4,d1,Int.reduceToNat,Int.reducePow,Int.reduceNeg,Int.reduceLT,Int.reduceLE,Nat.reducePow,and_self]
 exact⟨_,rfl⟩
theorem aF{f g:cI}(h:f E=some (E1,.nx)):aL f g E=g E1:=by
 unfold aL
 rw[h]
 rfl
theorem dY{c:jW}{a b:cI}{r:Option (List Sl×Fl)}(h:c E=some (false,E1))(k:b E1=r):bT c a b E=r:=by
 unfold bT
 rw[h,←k]
 rfl
theorem fV{c:jW}{a b:cI}{r:Option (List Sl×Fl)}(h:c E=some (true,E1))(k:a E1=r):bT c a b E=r:=by
 unfold bT
 rw[h,←k]
 rfl
theorem e9{elt:ba}{r:PyData}{rs:List PyData}(t:tg d E=some E1)(el:elt E1=some (.sh r,E1))(h:cB tg a_ elt ds E1=some rs):cB tg a_ elt (d::ds) E=some (r::rs):=by
 rw[cB,t,Option.bind_some]
 simp only[a_,Z0,el,frz,h,Z1,if_true]
def gn(a:Nat):PyData:=.str ⟨#[a]⟩
theorem kq:∀w:List Nat,bL (w.map gn)=true
 |[]=>rfl
 |a::w=>by simp[bL,fL,kq w,gn]
def az(a:Nat):Prop:=97≤a∧a < 123
theorem kr{a:Nat}(h:az a):a∈List.range' 97 26:=List.mem_range'_1.mpr ⟨h.1,h.2⟩
theorem aE{g:nq}{r:Sl}(h:g E=some (ss,E1))(hl:fq E1 ss=some ds)(hc:c ds=some r):am c g E=some (r,E1):=by
 unfold am
 rw[h,Option.bind_some]
 show(fq E1 ss).bind _=_
 rw[hl,Option.bind_some,hc]
 rfl
theorem EL{x:Int}{g:ba}(hf:g E=some (.sh (.int x),E))(h:f E=some (.sh (.int y),E))(ok:fN x y=true):ah iH false g f E=some (.sh (.int (x*y)),E):=by
 simp only[ah,iH,hf,h,Z0,look,Sl.val,ok,iy]
theorem jb{x:Int}{g:ba}(hf:g E=some (.sh (.int x),E))(h:f E=some (.sh (.int y),E)):ah bK false g f E=some (.sh (.int (x+y)),E):=by
 simp only[ah,bK,hf,h,Z0,look,Sl.val,iy]
theorem eL{i:Nat}(h:f E=some (.sh d,E1))(hi:i < E1.length):aH i f E=some (E1.set i (.sh d),.nx):=by
 unfold aH
 rw[h]
 simp only[Z0,PL.settle,hi,if_true]
theorem LQ{a b:jW}{r:Option (Bool×List Sl)}(h:a E=some (false,E1))(k:b E1=r):nw a b E=r:=by
 unfold nw
 rw[h,Option.bind_some]
 exact k
theorem AL(w:List Nat)(a:Nat):(Builtin.Str.occurrences ⟨w.toArray⟩ ⟨#[a]⟩ 0 (⟨w.toArray⟩:Str).length 1).isEmpty= !decide (a∈w):=by
 have h:=PySem.StrLaws.found_one ⟨w.toArray⟩ a
 rw[List.toList_toArray]at h
 rw[←h,Bool.not_not]
def fJ(a:Nat):Str:=⟨#[a]⟩
theorem EM{a b:Nat}(h:fJ a=fJ b):a=b:=by
 simp[fJ]at h;exact h
theorem Hb{a b:Nat}(h:a≤b):tN (fJ a) (fJ b)=true:=by
 have:[a]≤[b]:=by
  rcases Nat.lt_or_ge a b with k |k
  ·exact List.le_of_lt (List.Lex.rel k)
  ·rw[Nat.le_antisymm h k];exact List.le_refl _
 exact zz4 this
theorem Hc(ks:List Str)(x y:Str):y∈FH ks x↔y∈ks∨y=x:=by
 unfold FH
 split
 ·rename_i h
  exact⟨.inl,fun z=>z.elim id fun e=>e▸h⟩
 ·simp
theorem Cs(h:ks.Nodup)(x:Str):(FH ks x).Nodup:=by
 unfold FH
 split
 ·exact h
 ·rename_i k
  rw[List.nodup_append]
  refine⟨h,by simp,fun a ha b hb=>?_⟩
  rw[Zaf.mp hb]
  exact fun e=>k (e▸ha)
theorem uN:∀(ss ks:List Str),ks.Nodup→(ss.foldl FH ks).Nodup∧∀y,y∈ss.foldl FH ks↔y∈ks∨y∈ss
 |[],ks,h=>⟨h,fun y=>by simp⟩
 |s::ss,ks,h=>by
  obtain⟨a,b⟩:=uN ss (FH ks s) (Cs h s)
  refine⟨a,fun y=>?_⟩
  rw[List.foldl_cons,b y,Hc,Zag,or_assoc]
theorem Ct(ss:List Str):(j6 ss).Nodup:=(uN ss [] List.nodup_nil).1
theorem Hd(ss:List Str)(y:Str):y∈j6 ss↔y∈ss:=by
 rw[j6,(uN ss [] List.nodup_nil).2 y];simp
def aG(w:List Nat):List Nat:=(List.range' 97 26).filter fun a=>decide (a∈w)
theorem inOrd_mem{w:List Nat}{a:Nat}:a∈aG w↔a∈List.range' 97 26∧a∈w:=by simp[aG]
theorem jG[DecidableEq α]:∀{l m:List α},l.Nodup→m.Nodup→(∀a,a∈l↔a∈m)→l.Perm m
 |[],m,_,_,h=>by
  have:m=[]:=by
   cases m with
   |nil=>rfl
   |cons b m=>exact absurd ((h b).mpr (by simp)) (by simp)
  rw[this]
 |a::l,m,hl,hm,h=>by
  have ha:a∈m:=(h a).mp (by simp)
  have hl':=List.nodup_cons.mp hl
  have p:=List.perm_cons_erase ha
  refine((jG hl'.2 (hm.erase a) fun b=>?_).cons a).trans p.symm
  rw[List.Nodup.mem_erase_iff hm,←h b,Zag]
  exact⟨fun k=>⟨fun e=>hl'.1 (e▸k),.inr k⟩,fun k=>k.2.resolve_left k.1⟩
theorem l9{w:List Nat}(h:w.Nodup):(w.map fJ).Nodup:=by
 rw[List.Nodup,List.pairwise_map]
 exact h.imp fun k e=>k (EM e)
theorem ku(w:List Nat):(aG w).Nodup:=List.Nodup.sublist List.filter_sublist (List.nodup_range' ..)
theorem mT(w:List Nat):((aG w).map fJ).Pairwise fun a b=>tN a b=true:=by
 rw[List.pairwise_map]
 have h:(List.range' 97 26).Pairwise (· < ·):=List.pairwise_lt_range'
 exact(h.sublist List.filter_sublist).imp fun k=>Hb (lq k)
theorem qy{w:List Nat}(hw:∀a∈w,a∈List.range' 97 26):iE (j6 (w.map fJ))=(aG w).map fJ:=by
 refine(List.Perm.eq_of_pairwise (fun _ _ _ _ h k=>mr h k) (mT w) (List.pairwise_mergeSort i3 kM _) ?_).symm
 refine List.Perm.trans ?_ (xP _ tN).symm
 refine jG (l9 (ku w)) (Ct _) fun y=>?_
 rw[Hd,Zbf,Zbf]
 constructor
 ·rintro⟨a,ha,rfl⟩
  exact⟨a,(inOrd_mem.mp ha).2,rfl⟩
 ·rintro⟨a,ha,rfl⟩
  exact⟨a,inOrd_mem.mpr ⟨hw a ha,ha⟩,rfl⟩
theorem AM{w:List Nat}(hw:∀a∈w,a∈List.range' 97 26):(j6 (w.map fJ)).length≤26:=by
 rw[←nz,qy hw,eM]
 refine jP (List.length_filter_le _ _) (by simp)
theorem He{a:Nat}(h:az a):decide ([a] < (Str.ofString "a").cps.toList)=false:=by
 have e:(Str.ofString "a").cps.toList=[97]:=by decide+kernel
 rw[e]
 refine zz3 fun k=>?_
 have:a < 97:=by
  cases k with
  |rel k=>exact k
  |cons k=>cases k
 exact absurd this (Nat.not_lt.mpr h.1)
theorem Hg{a:Nat}(h:az a):decide ((Str.ofString "z").cps.toList < [a])=false:=by
 have e:(Str.ofString "z").cps.toList=[122]:=by decide+kernel
 rw[e]
 refine zz3 fun k=>?_
 have:122 < a:=by
  cases k with
  |rel k=>exact k
  |cons k=>cases k
 exact absurd this (Nat.not_lt.mpr (Nat.le_of_lt_succ h.2))
theorem qz{a:Nat}(h:az a):cX [.str ⟨#[a]⟩]=some (.sh (.bool true)):=by
 have l:(⟨#[a]⟩:Str).length=1:=rfl
 have t:(#[a]:Array Nat).toList=[a]:=rfl
 have lo:=He h
 have hi:=Hg h
 dsimp! [cX,kP,l,t,lo,hi]
theorem sD(x0:Sl):∀(w:List Nat) (a:Sl),(∀y∈w,az y)→∃a',bB cg ck (w.map gn) [x0,a]=some ([x0,a'],.nx)
 |[],a,_=>⟨a,rfl⟩
 |y::w,a,h=>by
  have n:=qz (h y (gE ..))
  have e:(cg (gn y) [x0,a]).bind ck=some ([x0,.sh (gn y)],.nx):=by
   simp! [cg,ck,gn,n]
  obtain⟨a',ih⟩:=sD x0 w (.sh (gn y)) fun z hz=>h z (gQ _ hz)
  refine⟨a',?_⟩
  rw[gR,bB,e]
  exact ih
theorem pv(w:List Nat):fE ⟨w.toArray⟩=w.map gn:=by simp[fE,gn]
theorem LR(w:List Nat):mw ⟨w.toArray⟩=w.map fJ:=by simp[mw,fJ]
theorem qA:∀(w:List Nat),j4 (w.map gn)=some (w.map fJ)
 |[]=>rfl
 |a::w=>by simp only[gR,gn,j4];rw[qA w];rfl
theorem qB(w:List Nat):gz ((w.map fJ).map PyData.str)=some (w.map fJ):=by
 induction w with
 |nil=>rfl
 |cons a w ih=>simp only[gR,gz,ih,Z1]
theorem oM:∀(w:List Nat),gz (w.map gn)=some (w.map fJ)
 |[]=>rfl
 |a::w=>by simp only[gR,gn,gz];rw[oM w];rfl
theorem uP(w:List Nat):((w.map fJ).map (·.length)).sum+(w.map fJ).length*(Str.ofString "").length=w.length:=by
 have:(Str.ofString "").length=0:=rfl
 rw[this,Nat.mul_zero,Nat.add_zero]
 induction w with
 |nil=>rfl
 |cons a w ih=>simp only[gR,List.sum_cons,ih,Z4];show 1+_=_;omega
theorem qC:∀(w:List Nat),Txt.join "" (w.map fJ)=⟨w.toArray⟩:=by
 intro w
 show Builtin.Str.glued "" _=_
 rw[StrLaws.glued_eq_join]
 induction w with
 |nil=>rfl
 |cons a w ih=>
  cases w with
  |nil=>rfl
  |cons b w=>
   have e:Str.join "" ((a::b::w).map fJ)=(⟨#[a]⟩:Str)++""++Str.join "" ((b::w).map fJ):=rfl
   rw[e,ih]
   show(⟨(#[a]++(Str.ofString "").cps)++(b::w).toArray⟩:Str)=_
   rw[show(Str.ofString "").cps=#[] by decide+kernel]
   simp
theorem sE(w:List Nat):(aG w).length≤1000000:=jP (List.length_filter_le _ _) (by simp)
theorem kT{w:List Nat}(h:∀y∈w,az y)(hl:w.length≤3900):eO [.str ⟨w.toArray⟩]=some (.sh (.str ⟨(aG w).toArray⟩)):=by
 obtain⟨a,e⟩:=sD (.sh (.str ⟨w.toArray⟩)) w .no h
 have d:=qy fun y hy=>kr (h y hy)
 have d2:(w.map fJ).length < 4000∧(j6 (w.map fJ)).length < 64:=⟨by rw[eM];omega,zz8 (AM fun y hy=>kr (h y hy)) (by decide)⟩
 have l:=uP (aG w)
 have l2:=sE w
 simp! [eO,mO,pv,e,j7,LR,d2,and_self,d,rT,qB,l,l2,qC]
theorem Cu:(Str.ofString "abcdefghijklmnopqrstuvwxyz")=(⟨(List.range' 97 26).toArray⟩:Str):=by decide+kernel
theorem JV(w:List Nat)(a:Nat):Lr (.str ⟨#[a]⟩) (.str ⟨w.toArray⟩)=some (decide (a∈w)):=by
 show some (!(Builtin.Str.occurrences ⟨w.toArray⟩ ⟨#[a]⟩ 0 (⟨w.toArray⟩:Str).length 1).isEmpty)=_
 rw[AL,Bool.not_not]
theorem LS{g:ba}{d1 d2:PyData}{b:Bool}(hf:f E=some (.sh d1,E))(hg:g E=some (.sh d2,E))(hd:Lr d1 d2=some b):d5 (ah (Jx false) false f g) E=some (b,E):=by
 simp only[d5,ah,Jx,jf,hf,hg,hd,Z0,look,Sl.val,Z1,iy]
theorem Hh(w:List Nat)(n:Nat)(c:Nat)(hc:c=97+n)(p:Int)(hp:p=2 ^ n)(a:Sl):(fF (.str ⟨#[c]⟩) [.sh (.str ⟨w.toArray⟩),.sh (.int (NH.dC w n)),.sh (.int p),a]).bind fG=some ([.sh (.str ⟨w.toArray⟩),.sh (.int (NH.dC w (n+1))),.sh (.int (p*2)),.sh (.str ⟨#[c]⟩)],.nx):=by
 have i1:=JV w c
 have ok:fN p 2=true:=ph (by decide) (by decide)
 have b:(NH.dC w (n+1):Int)=if c∈w then (NH.dC w n:Int)+p else (NH.dC w n:Int):=by
  rw[NH.dC,hc,hp]
  split
  ·push_cast;rfl
  ·simp
 generalize (NH.dC w (n+1):Int)=B1 at b ⊢
 generalize (NH.dC w n:Int)=B0 at b ⊢
 have tg:fF (.str ⟨#[c]⟩) [.sh (.str ⟨w.toArray⟩),.sh (.int B0),.sh (.int p),a]=some [.sh (.str ⟨w.toArray⟩),.sh (.int B0),.sh (.int p),.sh (.str ⟨#[c]⟩)]:=rfl
 have t1:d5 (ah (Jx false) false (aa 3) (aa 0)) [.sh (.str ⟨w.toArray⟩),.sh (.int B0),.sh (.int p),.sh (.str ⟨#[c]⟩)]=some (decide (c∈w),[.sh (.str ⟨w.toArray⟩),.sh (.int B0),.sh (.int p),.sh (.str ⟨#[c]⟩)]):=LS rfl rfl i1
 have s2:∀x:Int,aH 2 (ah iH false (aa 2) (pC (.int 2))) [.sh (.str ⟨w.toArray⟩),.sh (.int x),.sh (.int p),.sh (.str ⟨#[c]⟩)]=some ([.sh (.str ⟨w.toArray⟩),.sh (.int x),.sh (.int (p*2)),.sh (.str ⟨#[c]⟩)],.nx):=fun x=>eL (EL (g:=aa 2) (f:=pC (.int 2)) rfl rfl ok) (show 2 < 4 by decide)
 rw[tg,Option.bind_some,fG]
 by_cases h:c∈w
 ·rw[if_pos h]at b
  rw[zz4 h]at t1
  have s1:aH 1 (ah bK false (aa 1) (aa 2)) [.sh (.str ⟨w.toArray⟩),.sh (.int B0),.sh (.int p),.sh (.str ⟨#[c]⟩)]=some ([.sh (.str ⟨w.toArray⟩),.sh (.int B1),.sh (.int p),.sh (.str ⟨#[c]⟩)],.nx):=by
   rw[b]
   exact eL (jb (g:=aa 1) (f:=aa 2) rfl rfl) (show 1 < 4 by decide)
  rw[aF (fV t1 s1)]
  exact s2 B1
 ·rw[if_neg h]at b
  rw[zz3 h]at t1
  rw[aF (dY (b:=aW) t1 rfl),b]
  exact s2 B0
theorem AN(w:List Nat):∀(k n:Nat) (a:Sl),n+k=26→∃a' b',bB fF fG ((List.range' (97+n) k).map fun c=>.str ⟨#[c]⟩) [.sh (.str ⟨w.toArray⟩),.sh (.int (NH.dC w n)),.sh (.int (2 ^ n)),a]=some ([.sh (.str ⟨w.toArray⟩),.sh (.int (NH.bM w)),b',a'],.nx)
 | 0,n,a,h=>⟨a,.sh (.int (2 ^ n)),by rw[show n=26 by omega];rfl⟩
 |k+1,n,a,h=>by
  have s:=Hh w n (97+n) rfl (2 ^ n) rfl a
  rw[(Int.pow_succ 2 n).symm]at s
  obtain⟨a',b',e⟩:=AN w k (n+1) (.sh (.str ⟨#[97+n]⟩)) (by omega)
  refine⟨a',b',?_⟩
  rw[List.range'_succ,gR,bB,s]
  exact e
theorem l_(w:List Nat):cD [.str ⟨w.toArray⟩]=some (.sh (.int (NH.bM w))):=by
 obtain⟨a,b,e⟩:=AN w 26 0 .no rfl
 have z0:((NH.dC w 0:Nat):Int)=0:=rfl
 have z1:(2:Int) ^ 0=1:=rfl
 rw[z0,z1,Nat.add_zero]at e
 have sg:fE (⟨(List.range' 97 26).toArray⟩:Str)=(List.range' 97 26).map fun c=>.str ⟨#[c]⟩:=by simp[fE]
 simp! [cD,kQ,Cu,sg,e]
theorem zE(a b:Nat):Builtin.bitAnd (a:Int) (b:Int)=((a &&& b:Nat):Int):=by
 simp[Builtin.bitAnd]
theorem EN{g:ba}{x y:Nat}(hf:f E=some (.sh (.int x),E))(hg:g E=some (.sh (.int y),E)):ah vZ false f g E=some (.sh (.int ((x &&& y:Nat):Int)),E):=by
 simp only[ah,vZ,jf,Dm,hf,hg,Z0,look,Sl.val,Z1,zE,iy]
theorem wZ{g:ba}{x:Int}(hf:f E=some (.sh (.int x),E))(hg:g E=some (.sh (.int y),E)):d5 (ah kY false f g) E=some (decide (x=y),E):=by
 simp only[d5,ah,kY,jf,hf,hg,Z0,look,Sl.val,Z1,At,iy]
def mU(n:Nat):PyData:=.int n
theorem AO(x1:Sl)(b:Nat):∀(ps:List Nat) (a:Sl),∃E,bB bH bi (ps.map mU) [.sh (.int b),x1,a]=some (E,if ps.any (fun p=>decide (p &&& b=p))then .rt (.sh (.bool true))else .nx)
 |[],a=>⟨_,rfl⟩
 |p::ps,a=>by
  have t1:d5 (ah kY false (ah vZ false (aa 2) (aa 0)) (aa 2)) [.sh (.int b),x1,.sh (.int p)]=some (decide (((p &&& b:Nat):Int)=(p:Int)),[.sh (.int b),x1,.sh (.int p)]):=wZ (EN (f:=aa 2) (g:=aa 0) (x:=p) (y:=b) rfl rfl) rfl
  have tg:bH (mU p) [.sh (.int b),x1,a]=some [.sh (.int b),x1,.sh (.int p)]:=rfl
  by_cases h:p &&& b=p
  ·rw[zz4 (by rw[h])]at t1
   refine⟨[.sh (.int b),x1,.sh (.int p)],?_⟩
   have st:(bH (mU p) [.sh (.int b),x1,a]).bind bi=some ([.sh (.int b),x1,.sh (.int p)],.rt (.sh (.bool true))):=by
    rw[tg,Option.bind_some,bi]
    exact fV t1 rfl
   rw[gR,bB,st,List.any_cons,zz4 h]
   rfl
  ·rw[zz3 (by omega)]at t1
   obtain⟨E,ih⟩:=AO x1 b ps (.sh (.int p))
   refine⟨E,?_⟩
   have st:(bH (mU p) [.sh (.int b),x1,a]).bind bi=some ([.sh (.int b),x1,.sh (.int p)],.nx):=by
    rw[tg,Option.bind_some,bi]
    exact dY t1 rfl
   rw[gR,bB,st,List.any_cons,zz3 h,Bool.false_or]
   exact ih
theorem Hi(b:Nat)(ps:List Nat):aX [.int b,.list (ps.map mU)]=some (.sh (.bool (ps.any fun p=>decide (p &&& b=p)))):=by
 obtain⟨E,e⟩:=AO (.sh (.list (ps.map mU))) b ps .no
 cases h:ps.any (fun p=>decide (p &&& b=p))with
 |true=>
  rw[h]at e
  simp only[if_true]at e
  simp! [aX,dh,e]
 |false=>
  rw[h]at e
  simp only[iy]at e
  simp! [aX,dh,e]
theorem w5(x1:Sl)(b:Nat):∀(ps:List Nat) (a:Sl),∃E,bB cM b0 (ps.map mU) [.sh (.int b),x1,a]=some (E,if ps.all (fun p=> !decide (p &&& b=0))then .nx else .rt (.sh (.bool false)))
 |[],a=>⟨_,rfl⟩
 |p::ps,a=>by
  have t1:d5 (ah kY false (ah vZ false (aa 2) (aa 0)) (pC (.int 0))) [.sh (.int b),x1,.sh (.int p)]=some (decide (((p &&& b:Nat):Int)=0),[.sh (.int b),x1,.sh (.int p)]):=wZ (EN (f:=aa 2) (g:=aa 0) (x:=p) (y:=b) rfl rfl) rfl
  have tg:cM (mU p) [.sh (.int b),x1,a]=some [.sh (.int b),x1,.sh (.int p)]:=rfl
  by_cases h:p &&& b=0
  ·rw[zz4 (by rw[h];rfl)]at t1
   refine⟨[.sh (.int b),x1,.sh (.int p)],?_⟩
   have st:(cM (mU p) [.sh (.int b),x1,a]).bind b0=some ([.sh (.int b),x1,.sh (.int p)],.rt (.sh (.bool false))):=by
    rw[tg,Option.bind_some,b0]
    exact fV t1 rfl
   rw[gR,bB,st,List.all_cons,zz4 h]
   rfl
  ·rw[zz3 (by omega)]at t1
   obtain⟨E,ih⟩:=w5 x1 b ps (.sh (.int p))
   refine⟨E,?_⟩
   have st:(cM (mU p) [.sh (.int b),x1,a]).bind b0=some ([.sh (.int b),x1,.sh (.int p)],.nx):=by
    rw[tg,Option.bind_some,b0]
    exact dY t1 rfl
   rw[gR,bB,st,List.all_cons,zz3 h,Bool.not_false,Bool.true_and]
   exact ih
theorem EO(b:Nat)(ps:List Nat):cY [.int b,.list (ps.map mU)]=some (.sh (.bool (ps.all fun p=> !decide (p &&& b=0)))):=by
 obtain⟨E,e⟩:=w5 (.sh (.list (ps.map mU))) b ps .no
 cases h:ps.all (fun p=> !decide (p &&& b=0))with
 |true=>
  rw[h]at e
  simp only[if_true]at e
  simp! [cY,fH,e]
 |false=>
  rw[h]at e
  simp only[iy]at e
  simp! [cY,fH,e]
def av(w:List Nat):PyData:=.str ⟨w.toArray⟩
def Hj(w:List Nat):List (List Nat):=w.foldl (fun acc a=>acc++acc.map (· ++[a])) [[]]
abbrev aS:Sl:=.sh (.str "abcdefghijklmnopqrstuvwxyz")
abbrev nS(l:List Int):Sl:=.sh (.list (l.map .int))
abbrev xS(l:List (List Nat)):Sl:=.sh (.list (l.map av))
abbrev uS(l:List Nat):Sl:=.sh (.list (l.map gn))
abbrev xO(l:List (List Nat)):Sl:=.ow (l.map av)
abbrev uO(l:List Nat):Sl:=.ow (l.map gn)
abbrev tS(w:List Nat):Sl:=.sh (av w)
abbrev iS(z:Int):Sl:=.sh (.int z)
abbrev bS(b:Bool):Sl:=.sh (.bool b)
abbrev xL(l:List (List Nat)):PyData:=.list (l.map av)
theorem bR(l:List (List Nat)):bL (l.map av)=true:=by
 induction l with
 |nil=>rfl
 |cons a l ih=>show(fL (av a)&&bL (l.map av))=true;rw[ih];rfl
theorem EQ(u v:List Nat):(⟨u.toArray⟩:Str)++(⟨v.toArray⟩:Str)=⟨(u++v).toArray⟩:=by
 show(⟨u.toArray++v.toArray⟩:Str)=_
 simp
theorem kz(w:List Nat):(⟨w.toArray⟩:Str).length=w.length:=by show w.toArray.size=_;simp
theorem ER(a:Nat):∀(l:List (List Nat)) (x0:Sl),(∀u∈l,u.length≤1000)→cB gb a_ eT (l.map av) [x0,.sh (.str ⟨#[a]⟩)]=some ((l.map (· ++[a])).map av)
 |[],x0,_=>rfl
 |u::l,x0,h=>by
  have hu:=h u (gE ..)
  have ap:(⟨u.toArray⟩:Str)++(⟨#[a]⟩:Str)=⟨(u++[a]).toArray⟩:=EQ u [a]
  have l1:(⟨#[a]⟩:Str).length=1:=rfl
  have lb:u.length+1≤1000000:=by omega
  have e:gb (av u) [x0,.sh (.str ⟨#[a]⟩)]=some [.sh (.str ⟨u.toArray⟩),.sh (.str ⟨#[a]⟩)]:=rfl
  have e2:eT [.sh (.str ⟨u.toArray⟩),.sh (.str ⟨#[a]⟩)]=some (.sh (.str ⟨(u++[a]).toArray⟩),[.sh (.str ⟨u.toArray⟩),.sh (.str ⟨#[a]⟩)]):=by
   simp! [eT,kz,l1,lb,ap]
  rw[gR,cB,e,Option.bind_some]
  simp! [a_,e2,ER a l _ fun v hv=>h v (gQ _ hv)]
  rfl
theorem ES(x0:Sl):∀(w:List Nat) (l:List (List Nat)) (n:Nat) (a:Sl),l.length*2 ^ w.length≤100000→n+w.length≤1000→(∀u∈l,u.length≤n)→∃a',bB dL dM (w.map fun c=>.str ⟨#[c]⟩) [x0,xO l,a]=some ([x0,xO (w.foldl (fun acc a=>acc++acc.map (· ++[a])) l),a'],.nx)
 |[],l,n,a,_,_,_=>⟨a,rfl⟩
 |c::w,l,n,a,hb,hn,hl=>by
  have p1:1≤2 ^ w.length:=Nat.one_le_two_pow
  have lle:l.length≤100000:=by
   rw[List.length_cons,Nat.pow_succ]at hb
   have:l.length*1≤l.length*(2 ^ w.length*2):=Nat.mul_le_mul_left _ (by omega)
   omega
  have k:=ER c l .no fun u hu=>by have:=hl u hu;simp at hn;omega
  have lb:(l.map (· ++[c])).length≤1000000:=by simp;omega
  have lb2:l.length+(l.map (· ++[c])).length≤1000000:=by simp;omega
  have fl:=bR (l.map (· ++[c]))
  have lb3:l.length≤1000000:=by omega
  have lb4:l.length+l.length≤1000000:=by omega
  have st:(dL (.str ⟨#[c]⟩) [x0,xO l,a]).bind dM=some ([x0,xO (l++l.map (· ++[c])),.sh (.str ⟨#[c]⟩)],.nx):=by
   simp only[dL,dM,jh,Ao,bh,CO,Nat.reduceAdd,Nat.reduceSub,Nat.reduceLT,Nat.reduceLeDiff,k,fl,eM,lb3,lb4,←List.map_append]
  obtain⟨a',e⟩:=ES x0 w (l++l.map (· ++[c])) (n+1) (.sh (.str ⟨#[c]⟩)) (by
   rw[pA,eM,←Nat.two_mul,Nat.mul_assoc]
   rw[List.length_cons,Nat.pow_succ]at hb
   have e1:2*(l.length*2 ^ w.length)=l.length*(2 ^ w.length*2):=by rw[Nat.mul_comm 2,Nat.mul_assoc]
   omega) (by simp at hn;omega) (fun u hu=>by
    rcases Zah.mp hu with q |q
    ·have:=hl u q;omega
    ·obtain⟨v,hv,rfl⟩:=Zbf.mp q
     have:=hl v hv
     simp;omega)
  refine⟨a',?_⟩
  rw[gR,bB,st]
  exact e
theorem JW(w:List Nat)(hw:w.length≤10):cT [.str ⟨w.toArray⟩]=some (.ow ((Hj w).map av)):=by
 have p:2 ^ w.length≤2 ^ 10:=Nat.pow_le_pow_right (by decide) hw
 obtain⟨a,e⟩:=ES (.sh (.str ⟨w.toArray⟩)) w [[]] 0 .no (by simp;omega) (by omega) (fun u hu=>by rw[Zaf.mp hu];simp)
 have e0:[PyData.str ""]=([[]]:List (List Nat)).map av:=rfl
 have sg:fE (⟨w.toArray⟩:Str)=w.map fun c=>.str ⟨#[c]⟩:=by simp[fE]
 have fl:=bR (Hj w)
 unfold Hj at fl ⊢
 have s1:aH 1 (cK (aw (pC (.str "")) cr)) [.sh (.str ⟨w.toArray⟩),.no,.no]=some ([.sh (.str ⟨w.toArray⟩),.ow (([[]]:List (List Nat)).map av),.no],.nx):=by
  rw[←e0]
  simp! [if_true]
 have it:∀y:Sl,bw (aa 0) [.sh (.str ⟨w.toArray⟩),y,.no]=some (w.map fun c=>.str ⟨#[c]⟩,[.sh (.str ⟨w.toArray⟩),y,.no]):=fun y=>by
  simp! [sg]
 have fo:eR (bw (aa 0)) dL dM [.sh (.str ⟨w.toArray⟩),.ow (([[]]:List (List Nat)).map av),.no]=some ([.sh (.str ⟨w.toArray⟩),.ow ((w.foldl (fun acc a=>acc++acc.map (· ++[a])) [[]]).map av),a],.nx):=by
  unfold eR
  rw[it,Option.bind_some]
  exact e
 have g:cT [.str ⟨w.toArray⟩]=(hO [.sh (.str ⟨w.toArray⟩),.no,.no]).bind fun a=>match a.2 with |.rt r=>fc r |.nx=>some (.sh .none) |_=>none:=rfl
 rw[g,hO,aF s1,aF fo]
 simp! [fl]
open NhFam in
theorem AQ(w:List Nat):NhSG.jt ⟨w.toArray⟩=key w:=by
 show(((⟨w.toArray⟩:Str).length:Int),w.toArray.toList)=((w.length:Int),w)
 rw[kz]
theorem qD:∀F:List (List Nat),j4 (F.map av)=some (F.map fun w=>(⟨w.toArray⟩:Str))
 |[]=>rfl
 |w::F=>by
  show(j4 (F.map av)).map ((⟨w.toArray⟩:Str):: ·)=_
  rw[qD F]
  rfl
theorem ET(F:List (List Nat)):NhSG.k_ (F.map fun w=>(⟨w.toArray⟩:Str))=(NhFam.hJ F).map fun w=>(⟨w.toArray⟩:Str):=by
 refine(NhSG.sm ((xP F _).map _) ?_).symm
 rw[List.pairwise_map]
 exact(NhFam.nP F).imp fun {a b} h=>by
  unfold NhSG.vG
  rw[AQ,AQ]
  have:NhSG.gJ (NhFam.key b) (NhFam.key a)=false:=by simpa[NhFam.jd]using h
  rw[this];rfl
theorem Hk(F:List (List Nat)):(F.map fun w=>(⟨w.toArray⟩:Str)).map PyData.str=F.map av:=by rw[List.map_map];rfl
def Fit(F:List (List Nat)):Prop:=F.length < 1100∧∀w∈F,NH.q_ w∧w.length≤1000
theorem Fit.chk{F:List (List Nat)}(h:Fit F):(decide ((F.map fun w=>(⟨w.toArray⟩:Str)).length < 65536)&&(F.map fun w=>(⟨w.toArray⟩:Str)).all fun z=>decide (z.length≤1000))=true:=by
 simp only[rC,decide_eq_true_eq,List.all_eq_true,eM]
 refine⟨Nat.lt_trans h.1 (by decide),fun z hz=>?_⟩
 obtain⟨w,hw,rfl⟩:=Zbf.mp hz
 rw[kz]
 exact(h.2 w hw).2
theorem rn{F:List (List Nat)}(h:Fit F):bx [xL F]=some (xO (NhFam.hJ F)):=by
 have a:uI (aa 0) [xS F]=some (xO (NhFam.hJ F),[xS F]):=by
  unfold uI
  simp only[aa,Z2,Z0,look,Sl.val,qD,h.chk,if_true,ET,Hk]
 have fl:=bR (NhFam.hJ F)
 simp only[bx,eZ,gy,DK,dW,bq,a,Z0,Z1,fc,iC,fl,Z4,Z5,Nat.sub_self,List.replicate,gR,List.map_nil,oR,Nat.reduceAdd,iy]
def bN(w:List Nat):PyData:=mU (NH.bM w)
theorem sG(l:List (List Nat)):bL (l.map bN)=true:=by
 induction l with
 |nil=>rfl
 |cons a l ih=>show(fL (bN a)&&bL (l.map bN))=true;rw[ih];rfl
theorem w6(K:List (List Nat)):K.map bN=(K.map NH.bM).map mU:=by rw[List.map_map];rfl
theorem EU{K:List (List Nat)}(h:∀k∈K,NH.q_ k)(w:List Nat):(K.map NH.bM).any (fun p=>decide (p &&& NH.bM w=p))=K.any (fun k=>decide (NhFam.le k w)):=by
 induction K with
 |nil=>rfl
 |cons k K ih=>
  rw[gR,List.any_cons,List.any_cons,ih fun k hk=>h k (gQ _ hk)]
  congr 1
  exact decide_eq_decide.mpr (NH.Co (h k (gE ..)))
theorem qE(x0:Sl):∀(S K:List (List Nat)) (a b:Sl),(∀w∈S,NH.q_ w)→(∀w∈K,NH.q_ w)→K.length+S.length≤2000→∃y a' b',bB cZ cm (S.map av) [x0,.ow (K.map av),.ow (K.map bN),a,b]=some ([x0,.ow ((NhFam.cf K S).map av),y,a',b'],.nx)
 |[],K,a,b,_,_,_=>⟨_,a,b,rfl⟩
 |w::S,K,a,b,hS,hK,hl=>by
  have tg:cZ (av w) [x0,.ow (K.map av),.ow (K.map bN),a,b]=some [x0,.ow (K.map av),.ow (K.map bN),.sh (av w),b]:=rfl
  have c1:am cD (af false (aa 3) ai) [x0,.ow (K.map av),.ow (K.map bN),.sh (av w),b]=some (.sh (.int (NH.bM w)),[x0,.ow (K.map av),.ow (K.map bN),.sh (av w),b]):=aE (ss:=[.sh (av w)]) rfl rfl (l_ w)
  have s1:aH 4 (am cD (af false (aa 3) ai)) [x0,.ow (K.map av),.ow (K.map bN),.sh (av w),b]=some ([x0,.ow (K.map av),.ow (K.map bN),.sh (av w),.sh (.int (NH.bM w))],.nx):=eL c1 (show 4 < 5 by decide)
  have pp:=Hi (NH.bM w) (K.map NH.bM)
  rw[←w6,EU hK w]at pp
  have c2:dZ (am aX (af false (aa 4) (af false (aa 2) ai))) [x0,.ow (K.map av),.ow (K.map bN),.sh (av w),.sh (.int (NH.bM w))]=some (K.any (fun k=>decide (NhFam.le k w)),[x0,.ow (K.map av),.ow (K.map bN),.sh (av w),.sh (.int (NH.bM w))]):=by
   have c3:am aX (af false (aa 4) (af false (aa 2) ai)) [x0,.ow (K.map av),.ow (K.map bN),.sh (av w),.sh (.int (NH.bM w))]=some (.sh (.bool (K.any (fun k=>decide (NhFam.le k w)))),[x0,.ow (K.map av),.ow (K.map bN),.sh (av w),.sh (.int (NH.bM w))]):=aE (ss:=[.sh (.int (NH.bM w)),.al 2]) rfl rfl pp
   simp only[dZ,c3,Z0,look,Sl.val,oV,Z1]
  by_cases h:K.any (fun k=>decide (NhFam.le k w))=true
  ·rw[h]at c2
   have st:(cZ (av w) [x0,.ow (K.map av),.ow (K.map bN),a,b]).bind cm=some ([x0,.ow (K.map av),.ow (K.map bN),.sh (av w),.sh (.int (NH.bM w))],.nx):=by
    rw[tg,Option.bind_some,cm,aF s1]
    refine dY ?_ rfl
    simp only[eQ,c2,Z1,Bool.not_true]
   obtain⟨y,a',b',e⟩:=qE x0 S K (.sh (av w)) (.sh (.int (NH.bM w))) (fun v hv=>hS v (gQ _ hv)) hK (by simp at hl;omega)
   refine⟨y,a',b',?_⟩
   rw[gR,bB,st,NhFam.cf,if_pos h]
   exact e
  ·have h':K.any (fun k=>decide (NhFam.le k w))=false:=by simpa using h
   rw[h']at c2
   have b1:K.length < 1000000:=by simp at hl;omega
   have st:(cZ (av w) [x0,.ow (K.map av),.ow (K.map bN),a,b]).bind cm=some ([x0,.ow ((K++[w]).map av),.ow ((K++[w]).map bN),.sh (av w),.sh (.int (NH.bM w))],.nx):=by
    rw[tg,Option.bind_some,cm,aF s1]
    have n2:eQ (dZ (am aX (af false (aa 4) (af false (aa 2) ai)))) [x0,.ow (K.map av),.ow (K.map bN),.sh (av w),.sh (.int (NH.bM w))]=some (true,[x0,.ow (K.map av),.ow (K.map bN),.sh (av w),.sh (.int (NH.bM w))]):=by
     simp only[eQ,c2,Z1,Bool.not_false]
    refine fV n2 ?_
    have a1:fA (gH 2 (aa 4)) [x0,.ow (K.map av),.ow (K.map bN),.sh (av w),.sh (.int (NH.bM w))]=some ([x0,.ow (K.map av),.ow ((K++[w]).map bN),.sh (av w),.sh (.int (NH.bM w))],.nx):=by
     simp only[CO,Nat.reduceAdd,Nat.reduceSub,Nat.reduceLT,Nat.reduceLeDiff,eM,b1,List.map_append]
     rfl
    rw[aF a1]
    simp only[CO,Nat.reduceAdd,Nat.reduceSub,Nat.reduceLT,Nat.reduceLeDiff,eM,b1,List.map_append]
   obtain⟨y,a',b',e⟩:=qE x0 S (K++[w]) (.sh (av w)) (.sh (.int (NH.bM w))) (fun v hv=>hS v (gQ _ hv)) (fun v hv=>by
    rcases Zah.mp hv with q |q
    ·exact hK v q
    ·rw[Zaf.mp q];exact hS w (gE ..)) (by simp at hl ⊢;omega)
   refine⟨y,a',b',?_⟩
   rw[gR,bB,st,NhFam.cf,if_neg h]
   exact e
theorem oN{F:List (List Nat)}(h:Fit F):dv [xL F]=some (xO (NhFam.aA F)):=by
 obtain⟨y,a,b,e⟩:=qE (xS F) (NhFam.hJ F) [] .no .no (fun w hw=>(h.2 w (NhFam.sortT_mem.mp hw)).1) (fun w hw=>by cases hw) (by
  have:(NhFam.hJ F).length=F.length:=(xP F _).length_eq
  have:=h.1
  simp;omega)
 have it:bw (am bx (af false (aa 0) ai)) [xS F,.ow [],.ow [],.no,.no]=some ((NhFam.hJ F).map av,[xS F,.ow [],.ow [],.no,.no]):=by
  have c:am bx (af false (aa 0) ai) [xS F,.ow [],.ow [],.no,.no]=some (xO (NhFam.hJ F),[xS F,.ow [],.ow [],.no,.no]):=aE (ss:=[xS F]) rfl rfl (rn h)
  unfold bw
  rw[c]
  rfl
 have fo:eR (bw (am bx (af false (aa 0) ai))) cZ cm [xS F,.ow [],.ow [],.no,.no]=some ([xS F,xO (NhFam.aA F),y,a,b],.nx):=by
  unfold eR
  rw[it,Option.bind_some]
  exact e
 have g:dv [xL F]=(hM [xS F,.no,.no,.no,.no]).bind fun a=>match a.2 with |.rt r=>fc r |.nx=>some (.sh .none) |_=>none:=rfl
 have s1:aH 1 (cK cr) [xS F,.no,.no,.no,.no]=some ([xS F,.ow [],.no,.no,.no],.nx):=by simp! [if_true]
 have s2:aH 2 (cK cr) [xS F,.ow [],.no,.no,.no]=some ([xS F,.ow [],.ow [],.no,.no],.nx):=by simp! [if_true]
 have fl:=bR (NhFam.aA F)
 rw[g,hM,aF s1,aF s2,aF fo]
 simp! [fl]
def xN(w:List Nat):Str:=⟨w.toArray⟩
theorem fW(w:List Nat):NhFam.Srt (aG w):=List.Pairwise.sublist List.filter_sublist (List.pairwise_lt_range' ..)
theorem EV{w:List Nat}(h:NhFam.Srt w)(a:∀y∈w,az y):aG w=w:=
 (fW w).ext h (fun x hx=>(inOrd_mem.mp hx).2) fun x hx=>inOrd_mem.mpr ⟨kr (a x hx),hx⟩
theorem Hl:∀F:List (List Nat),Txt.join "" (F.map xN)=⟨F.flatten.toArray⟩:=by
 intro F
 show Builtin.Str.glued "" _=_
 rw[StrLaws.glued_eq_join]
 induction F with
 |nil=>rfl
 |cons a F ih=>
  cases F with
  |nil=>simp[Str.join,xN]
  |cons b F=>
   have e:Str.join "" ((a::b::F).map xN)=(xN a)++""++Str.join "" ((b::F).map xN):=rfl
   rw[e,ih]
   show(⟨(a.toArray++(Str.ofString "").cps)++(b::F).flatten.toArray⟩:Str)=_
   rw[show(Str.ofString "").cps=#[] by decide+kernel]
   simp
theorem sH:∀F:List (List Nat),gz (F.map av)=some (F.map xN)
 |[]=>rfl
 |w::F=>by
  show(gz (F.map av)).map (xN w:: ·)=_
  rw[sH F]
  rfl
theorem EW:∀F:List (List Nat),((F.map xN).map (·.length)).sum+(F.map xN).length*(Str.ofString "").length=F.flatten.length:=by
 intro F
 have:(Str.ofString "").length=0:=rfl
 rw[this,Nat.mul_zero,Nat.add_zero]
 induction F with
 |nil=>rfl
 |cons a F ih=>
  simp only[gR,List.sum_cons,ih,List.flatten_cons,pA]
  rw[show(xN a).length=a.length from kz a]
theorem rq{w:List Nat}(h:w.length≤10):dN [av w]=some (.sh .none):=by
 have l:=kz w
 have lt:¬((w.length:Int) > 10):=by omega
 have lb:w.length≤1000000:=by omega
 dsimp! [dN,gK,av,l,lt,lb]
theorem e_{c:jW}{rs:List PyData}(hi:it E=some (ds,E1))(hl:cB tg c el ds (jh js E1)=some rs)(fl:bL rs=true)(ll:rs.length≤1000000):bh js it tg c el E=some (.ow rs,E1):=by
 simp only[bh,hi,Z0,hl,fl,ll,and_self,Z1,Bool.and_self,iy]
theorem og:∀(F:List (List Nat)) (x:Sl),cB aT a_ aU (F.map av) [x]=some (F.map bN)
 |[],x=>rfl
 |v::F,x=>by
  have t:aT (av v) [x]=some [tS v]:=rfl
  have e:aU [tS v]=some (iS (NH.bM v),[tS v]):=aE (ss:=[tS v]) rfl rfl (l_ v)
  exact e9 t e (og F _)
theorem EY{K:List (List Nat)}(h:∀k∈K,NH.q_ k)(w:List Nat):(K.map NH.bM).all (fun p=> !decide (p &&& NH.bM w=0))=NhFam.jK K w:=by
 unfold NhFam.jK
 induction K with
 |nil=>rfl
 |cons k K ih=>
  rw[gR,List.all_cons,List.all_cons,ih fun k hk=>h k (gQ _ hk)]
  congr 1
  exact congrArg not (decide_eq_decide.mpr (NH.Cp (h k (gE ..))))
theorem EZ{elt:ba}{r:PyData}{rs:List PyData}{b:Bool}(t:tg d E=some E1)(c:cond E1=some (b,E1))(el:elt E1=some (.sh r,E1))(h:cB tg cond elt ds E1=some rs):cB tg cond elt (d::ds) E=some (if b then r::rs else rs):=by
 cases b with
 |true=>simp only[cB,t,c,el,h,Z0,Z1,if_true,frz]
 |false=>simp only[cB,t,c,h,Z0,iy]
theorem AR{K:List (List Nat)}(hK:∀k∈K,NH.q_ k):∀(F:List (List Nat)) (x:Sl),cB bV bG bW (F.map av) [x,.sh (.list (K.map bN))]=some ((F.filter (NhFam.jK K)).map av)
 |[],x=>rfl
 |v::F,x=>by
  have t:bV (av v) [x,.sh (.list (K.map bN))]=some [tS v,.sh (.list (K.map bN))]:=rfl
  have el:bW [tS v,.sh (.list (K.map bN))]=some (tS v,[tS v,.sh (.list (K.map bN))]):=rfl
  have c1:am cD (af false (aa 0) ai) [tS v,.sh (.list (K.map bN))]=some (iS (NH.bM v),[tS v,.sh (.list (K.map bN))]):=aE (ss:=[tS v]) rfl rfl (l_ v)
  have pm:=EO (NH.bM v) (K.map NH.bM)
  rw[←w6,EY hK v]at pm
  have c2:am cY (af false (am cD (af false (aa 0) ai)) (af false (aa 1) ai)) [tS v,.sh (.list (K.map bN))]=some (bS (NhFam.jK K v),[tS v,.sh (.list (K.map bN))]):=aE (ss:=[iS (NH.bM v),.sh (.list (K.map bN))]) (by simp only[af,ai,c1,Z0,Z1,aa,Z3,Z2,iy]) rfl pm
  have c:bG [tS v,.sh (.list (K.map bN))]=some (NhFam.jK K v,[tS v,.sh (.list (K.map bN))]):=by
   unfold bG
   simp only[dZ,c2,Z0,look,Sl.val,oV,Z1]
  rw[gR,EZ t c el (AR hK F _),List.filter_cons]
  split <;> rfl
theorem uQ{r:Sl}(h:f E=some (r,E1)):fA f E=some (E1,.nx):=by
 simp only[fA,h,Z1]
theorem kA{i:Nat}(h:f E=some (.ow ds,E1))(hi:i < E1.length):aH i f E=some (E1.set i (.ow ds),.nx):=by
 simp only[aH,h,Z0,PL.settle,Sl.isAl,hi,Z1,iy]
theorem Cv{w:List Nat}(n:w.Nodup)(a:∀y∈w,az y):iE (w.map fJ)=(aG w).map fJ:=by
 refine(List.Perm.eq_of_pairwise (fun _ _ _ _ h k=>mr h k) (mT w) (List.pairwise_mergeSort i3 kM _) ?_).symm
 refine List.Perm.trans ?_ (xP _ _).symm
 refine jG (l9 (ku w)) (l9 n) fun y=>?_
 constructor
 ·intro h
  obtain⟨a,ha,rfl⟩:=Zbf.mp h
  exact Zbf.mpr ⟨a,(inOrd_mem.mp ha).2,rfl⟩
 ·intro h
  obtain⟨b,hb,rfl⟩:=Zbf.mp h
  exact Zbf.mpr ⟨b,inOrd_mem.mpr ⟨kr (a b hb),hb⟩,rfl⟩
theorem kB{w:List Nat}(n:w.Nodup)(a:∀y∈w,az y):(aG w).length=w.length:=
 (jG (ku w) n fun y=>⟨fun h=>(inOrd_mem.mp h).2,fun h=>inOrd_mem.mpr ⟨kr (a y h),h⟩⟩).length_eq
theorem LT{g:ba}(hf:f E=some (s1,E))(hg:g E=some (s2,E)):af false f (af false g ai) E=some ([s1,s2],E):=by
 simp only[af,ai,hf,hg,Z0,Z1,iy]
theorem iw{g:ba}{x:Int}(hf:f E=some (iS x,E))(hg:g E=some (iS y,E))(h:0 < y):ah cJ false f g E=some (iS (x % y),E):=by
 simp only[ah,hf,hg,Z0,cJ,jf,Dm,look,Sl.val,h,Z1,iy]
theorem kU{g:ba}{x:Int}(hf:f E=some (iS x,E))(hg:g E=some (iS y,E))(h:ou y=true):ah df false f g E=some (iS (x / y),E):=by
 simp only[ah,hf,hg,Z0,df,jf,Dm,look,Sl.val,h,Z1,iy]
theorem LU(hf:f E=some (s1,E)):af false f ai E=some ([s1],E):=by
 simp only[af,ai,hf,Z0,Z1,iy]
structure Uni (U:List Nat):Prop where
 srt:NhFam.Srt U
 lt:∀a∈U,az a
 len:U.length≤26
theorem Uni.ltrs{w:List Nat}(h:Uni U)(s:NhFam.Sub U w):NH.q_ w:=fun a ha=>by
 have:=h.lt a (s.2 a ha)
 exact⟨this.1,this.2⟩
theorem Uni.azw{w:List Nat}(h:Uni U)(s:NhFam.Sub U w):∀a∈w,az a:=fun a ha=>h.lt a (s.2 a ha)
theorem Uni.short{w:List Nat}(h:Uni U)(s:NhFam.Sub U w):w.length≤26:=jP (NhFam.dJ s.1 h.srt s.2).length_le h.len
theorem Uni.small{V:List Nat}(u:Uni U)(hV:NhFam.Sub U V):Uni V:=⟨hV.1,u.azw hV,u.short hV⟩
structure Wrt (U:List Nat) (W:List (List Nat)):Prop where
 sub:∀t∈W,NhFam.le t U
 tl:∀t∈W,t.length≤30
 len:W.length≤120
def bY(W:List (List Nat)):List (List Nat):=W.map aG
theorem Hm{t:List Nat}(u:Uni U)(h:NhFam.le t U):NhFam.Sub U (aG t):=⟨fW t,fun x hx=>h x (inOrd_mem.mp hx).2⟩
theorem Wrt.sets(u:Uni U)(h:Wrt U W):∀v∈bY W,NhFam.Sub U v:=fun v hv=>by
 obtain⟨t,ht,rfl⟩:=Zbf.mp hv
 exact Hm u (h.sub t ht)
theorem E7{F:List (List Nat)}(u:Uni U)(h:∀v∈F,NhFam.Sub U v)(hl:F.length < 1100):Fit F:=⟨hl,fun w hw=>⟨u.ltrs (h w hw),by have:=u.short (h w hw);omega⟩⟩
theorem lh(u:Uni U):∀(W:List (List Nat)) (x:Sl),(∀t∈W,NhFam.le t U)→(∀t∈W,t.length≤30)→cB cN a_ cO (W.map av) [x]=some ((bY W).map av)
 |[],x,_,_=>rfl
 |v::W,x,h,hl=>by
  have t:cN (av v) [x]=some [tS v]:=rfl
  have so:=kT (w:=v) (fun y hy=>u.lt y (h v (gE ..) y hy)) (by have:=hl v (gE ..);omega)
  have e:cO [tS v]=some (tS (aG v),[tS v]):=aE (ss:=[tS v]) rfl rfl so
  exact e9 t e (lh u W _ (fun v hv=>h v (gQ _ hv)) fun v hv=>hl v (gQ _ hv))
theorem iU(u:Uni U)(h:Wrt U W):aP [xL W]=some (xO (NhFam.aA (bY W))):=by
 have ls:(bY W).length=W.length:=by unfold bY;rw[eM]
 have hl:=h.len
 have c:bh [none] (bw (aa 0)) cN a_ cO [xS W]=some (xO (bY W),[xS W]):=e_ rfl (lh u W _ h.sub h.tl) (bR _) (by rw[eM];omega)
 have b:am dv (af false (bh [none] (bw (aa 0)) cN a_ cO) ai) [xS W]=some (xO (NhFam.aA (bY W)),[xS W]):=aE (ss:=[xO (bY W)]) (by simp only[af,ai,c,Z0,Z1,iy]) rfl (oN (E7 u (h.sets u) (by omega)))
 have fl:=bR (NhFam.aA (bY W))
 simp only[aP,gL,gy,DK,dW,bq,b,Z0,Z1,fc,iC,fl,Z4,Z5,Nat.sub_self,List.replicate,gR,List.map_nil,oR,Nat.reduceAdd,iy]
theorem E8(h:∀t∈W,t.length≤30):W.flatten.length≤W.length*30:=by
 induction W with
 |nil=>simp
 |cons a W ih=>
  have:=ih fun v hv=>h v (gQ _ hv)
  have:=h a (gE ..)
  simp only[List.flatten_cons,pA,Z4]
  omega
theorem kC(u:Uni U)(h:Wrt U W):bu [xL W]=some (tS (aG W.flatten)):=by
 have fl:=E8 h.tl
 have hl:=h.len
 have e:=kT (w:=W.flatten) (fun y hy=>by
  obtain⟨v,hv,hy⟩:=List.mem_flatten.mp hy
  exact u.lt y (h.sub v hv y hy)) (by omega)
 have l:=EW W
 have l2:W.flatten.length≤1000000:=by omega
 have j:=Hl W
 have a:iD "" (aa 0) [xS W]=some (.sh (.str ⟨W.flatten.toArray⟩),[xS W]):=by
  simp only[iD,lA,rT,aa,Z2,Z0,look,Sl.val,sH,l,l2,if_true,Z1,j]
 have b:am eO (af false (iD "" (aa 0)) ai) [xS W]=some (tS (aG W.flatten),[xS W]):=aE (ss:=[.sh (.str ⟨W.flatten.toArray⟩)]) (by simp only[af,ai,a,Z0,Z1,iy]) rfl e
 have fx:fL (av (aG W.flatten))=true:=rfl
 simp only[bu,gc,gy,DK,dW,bq,b,Z0,Z1,fc,iC,fx,Z4,Z5,Nat.sub_self,List.replicate,gR,List.map_nil,oR,Nat.reduceAdd,iy]
theorem oh(u:Uni U)(h:Wrt U W):NhFam.Sub U (aG W.flatten):=⟨fW _,fun x hx=>by
 obtain⟨v,hv,hx⟩:=List.mem_flatten.mp (inOrd_mem.mp hx).2
 exact h.sub v hv x hx⟩
theorem Cw(u:Uni U)(h:Wrt U W):∀v∈bY W,NhFam.le v (aG W.flatten):=fun v hv x hx=>by
 obtain⟨t,ht,rfl⟩:=Zbf.mp hv
 obtain⟨a,b⟩:=inOrd_mem.mp hx
 exact inOrd_mem.mpr ⟨a,List.mem_flatten.mpr ⟨t,ht,b⟩⟩
theorem Cy(L M:List (List Nat))(hn:L.Nodup)(hm:∀w∈L,w∈M):L.length≤M.length:=by
 induction L generalizing M with
 |nil=>simp
 |cons a L ih=>
  have hn':=List.nodup_cons.mp hn
  have:=ih (M.erase a) hn'.2 fun w hw=>(List.mem_erase_of_ne (a:=w) (b:=a) (fun e=>hn'.1 (by rw[←e];exact hw))).mpr (hm w (gQ _ hw))
  rw[List.length_erase_of_mem (hm a (gE ..))]at this
  have pos:0 < M.length:=List.length_pos_of_mem (hm a (gE ..))
  simp only[Z4]
  omega
theorem w_{f:List Nat→Prop}(u:Uni U)(l:U.length≤10)(t:NhFam.Told U L f):L.length≤1024:=by
 have:=Cy L (NhFam.oZ U) (NhFam.kO t.srt) fun w hw=>(NhFam.qd u.srt).mpr (t.sub w hw)
 rw[NhFam.wN]at this
 have p:2 ^ U.length≤2 ^ 10:=Nat.pow_le_pow_right (by decide) l
 omega
theorem Hn{V:List Nat}(u:Uni V)(l:V.length≤10)(p:List Nat→Bool):((NhFam.oZ V).filter p).length≤1024:=by
 have:=List.length_filter_le p (NhFam.oZ V)
 rw[NhFam.wN]at this
 have q:2 ^ V.length≤2 ^ 10:=Nat.pow_le_pow_right (by decide) l
 omega
theorem o9(u:Uni U)(h:Wrt U W)(l10:U.length≤10):bJ [xL W]=some (xO (NhFam.sy (bY W) (aG W.flatten))):=by
 have tl:=NhFam.cS (h.sets u)
 have lL:=w_ u l10 tl
 have hV:=oh u h
 have uV:=u.small hV
 have lV:(aG W.flatten).length≤10:=jP (NhFam.dJ hV.1 u.srt hV.2).length_le l10
 have hK:∀k∈NhFam.aA (bY W),NH.q_ k:=fun k hk=>u.ltrs (tl.sub k hk)
 have cnt:=Hn uV lV (NhFam.jK (NhFam.aA (bY W)))
 generalize eV:aG W.flatten=V at hV uV lV cnt
 generalize eF:bY W=F at tl lL hK cnt
 have pl:=iU u h
 rw[eF]at pl
 have pn:=kC u h
 rw[eV]at pn
 have c1:am aP (af false (aa 0) ai) [xS W,.no,.no]=some (xO (NhFam.aA F),[xS W,.no,.no]):=aE (ss:=[xS W]) rfl rfl pl
 have i1:bw (am aP (af false (aa 0) ai)) [xS W,.no,.no]=some ((NhFam.aA F).map av,[xS W,.no,.no]):=by
  unfold bw
  rw[c1]
  rfl
 have p1:bh [none] (bw (am aP (af false (aa 0) ai))) aT a_ aU [xS W,.no,.no]=some (.ow ((NhFam.aA F).map bN),[xS W,.no,.no]):=e_ i1 (og _ _) (sG _) (by rw[eM];omega)
 have s1:aH 1 (bh [none] (bw (am aP (af false (aa 0) ai))) aT a_ aU) [xS W,.no,.no]=some ([xS W,.ow ((NhFam.aA F).map bN),.no],.nx):=kA p1 (show 1 < 3 by decide)
 have c2:am bu (af false (aa 0) ai) [xS W,.ow ((NhFam.aA F).map bN),.no]=some (tS V,[xS W,.ow ((NhFam.aA F).map bN),.no]):=aE (ss:=[xS W]) rfl rfl pn
 have s2:aH 2 (am bu (af false (aa 0) ai)) [xS W,.ow ((NhFam.aA F).map bN),.no]=some ([xS W,.ow ((NhFam.aA F).map bN),tS V],.nx):=eL c2 (show 2 < 3 by decide)
 have c3:fA (am dN (af false (aa 2) ai)) [xS W,.ow ((NhFam.aA F).map bN),tS V]=some ([xS W,.ow ((NhFam.aA F).map bN),tS V],.nx):=uQ (aE (ss:=[tS V]) rfl rfl (rq (by omega)))
 have c4:am cT (af false (aa 2) ai) [xS W,.ow ((NhFam.aA F).map bN),tS V]=some (xO (Hj V),[xS W,.ow ((NhFam.aA F).map bN),tS V]):=aE (ss:=[tS V]) rfl rfl (JW _ (by omega))
 have i4:bw (am cT (af false (aa 2) ai)) [xS W,.ow ((NhFam.aA F).map bN),tS V]=some ((NhFam.oZ V).map av,[xS W,.ow ((NhFam.aA F).map bN),tS V]):=by
  unfold bw
  rw[c4]
  rfl
 have fit:Fit ((NhFam.oZ V).filter (NhFam.jK (NhFam.aA F))):=E7 uV (fun v hv=>(NhFam.qd uV.srt).mp (List.mem_filter.mp hv).1) (by omega)
 have p4:bh [none,some 1] (bw (am cT (af false (aa 2) ai))) bV bG bW [xS W,.ow ((NhFam.aA F).map bN),tS V]=some (xO ((NhFam.oZ V).filter (NhFam.jK (NhFam.aA F))),[xS W,.ow ((NhFam.aA F).map bN),tS V]):=e_ i4 (AR hK _ _) (bR _) (by rw[eM];omega)
 have c5:am dv (af false (bh [none,some 1] (bw (am cT (af false (aa 2) ai))) bV bG bW) ai) [xS W,.ow ((NhFam.aA F).map bN),tS V]=some (xO (NhFam.sy F V),[xS W,.ow ((NhFam.aA F).map bN),tS V]):=aE (ss:=[xO ((NhFam.oZ V).filter (NhFam.jK (NhFam.aA F)))]) (by simp only[af,ai,p4,Z0,Z1,iy]) rfl (oN fit)
 have g:bJ [xL W]=(eG [xS W,.no,.no]).bind fun a=>match a.2 with |.rt r=>fc r |.nx=>some (.sh .none) |_=>none:=rfl
 have fl:=bR (NhFam.sy F V)
 rw[g,eG,aF s1,aF s2,aF c3]
 simp only[bq,c5,Z1,Z0,fc,iC,fl,if_true]
theorem nQ(u:Uni U)(h:Wrt U W):NhFam.Told U (NhFam.sy (bY W) (aG W.flatten)) (NhFam.i8 (bY W)):=by
 have s:=oh u h
 exact(NhFam.nQ u.srt s.1 s.2 (h.sets u) (Cw u h)).congr fun w hw=>(NhFam.sx (h.sets u)).symm
theorem JX{w:List Nat}(h:∀a∈w,az a):(av w).canLay0=true:=by
 have:∀a∈w,a < 1114112:=fun a ha=>by have:=h a ha;unfold az at this;omega
 simp only[av,PyData.canLay0,PyData.strOk]
 simpa using this
theorem E9:∀{L:List (List Nat)},(∀w∈L,∀a∈w,az a)→PyData.canLayAll0 (L.map av)=true∧PyData.depthAll (L.map av)=0
 |[],_=>by simp[PyData.canLayAll0,PyData.depthAll]
 |w::L,h=>by
  obtain⟨x,y⟩:=E9 (L:=L) fun v hv=>h v (gQ _ hv)
  have h1:=JX (h w (gE ..))
  have h2:(av w).depth=0:=by simp[av,PyData.depth]
  simp only[gR,PyData.canLayAll0,PyData.depthAll,h1,h2,x,y,Bool.and_self,true_and]
  rfl
theorem sI(h:∀w∈L,∀a∈w,az a):SeqAt.shaped (xL L)=true:=by
 obtain⟨x,y⟩:=E9 h
 unfold SeqAt.shaped
 simp only[PyData.canLay0,PyData.depth,x,y,Bool.true_and]
 decide
theorem qF{z:Int}{c:Nat}(hf:f E=some (iS z,E))(h1:z=(c:Int))(h2:c≤1000):d9 (af false f ai) E=some (iI 0 c,E):=by
 have o1:(-1000000:Int)≤z:=by omega
 have o2:z≤1000000:=by omega
 have t:z.toNat=c:=by omega
 simp only[d9,af,ai,hf,Z0,Z1,fq,look,Sl.val,o1,o2,and_self,t,iy]
theorem sJ{w:List Nat}(hf:f E=some (uO w,E))(hl:w.length < 64)(n:w.Nodup)(a:∀y∈w,az y):fZ f E=some (uO (aG w),E):=by
 have l:(w.map fJ).length < 64:=by rw[eM];exact hl
 have m:((aG w).map fJ).map PyData.str=(aG w).map gn:=by rw[List.map_map];rfl
 simp only[fZ,hf,Z0,look,Sl.val,qA,l,if_true,Cv n a,m]
def H_:Nat→Nat→Nat
 | 0,_=>0
 |k+1,n=>if n=1 then 1 else 2*(H_ k (n - n / 2)+H_ k (n / 2))
theorem rA(n:Nat):dO [.int (n:Int)]=some (iS ((n - n / 2:Nat):Int)):=by
 have d:ou 2=true:=by decide
 have e:((n:Int)+1) / 2=((n - n / 2:Nat):Int):=by omega
 simp only[dO,gP,CO,Nat.reduceAdd,Nat.reduceSub,Nat.reduceLT,Nat.reduceLeDiff,d,e]
theorem LV(self:List PyData→Option Sl)(n h h' A B:Int)(n1:n≠1)(e0:dO [.int n]=some (iS h))(hh:n - h=h')(ea:self [.int h]=some (iS A))(eb:self [.int h']=some (iS B))(ok:fN 2 (A+B)=true):gy 1 2 (bP self) [.int n]=some (iS (2*(A+B))):=by
 simp only[bP,CO,Nat.reduceAdd,Nat.reduceSub,Nat.reduceLT,Nat.reduceLeDiff,n1,e0,hh,ea,eb,ok]
theorem E_(self:List PyData→Option Sl):gy 1 2 (bP self) [.int 1]=some (iS 1):=by
 simp only[bP,CO,Nat.reduceAdd,Nat.reduceSub,Nat.reduceLT,Nat.reduceLeDiff]
theorem LW:∀(k n:Nat),1≤n→n≤2 ^ k→cw (k+1) [.int (n:Int)]=some (iS ((H_ (k+1) n:Nat):Int)):=by
 intro k
 induction k with
 |zero=>
  intro n h1 h2
  have:n=1:=by omega
  subst this
  exact E_ _
 |succ k ih=>
  intro n h1 h2
  by_cases h:n=1
  ·subst h
   exact E_ _
  ·rw[Nat.pow_succ]at h2
   have e:H_ (k+1+1) n=2*(H_ (k+1) (n - n / 2)+H_ (k+1) (n / 2)):=by rw[H_,if_neg h]
   rw[e,Int.natCast_mul,Int.natCast_add]
   exact LV _ n ((n - n / 2:Nat):Int) ((n / 2:Nat):Int) _ _ (by omega) (rA n) (by omega) (ih _ (by omega) (by omega)) (ih _ (by omega) (by omega)) (mE (by decide) (by decide))
def Nu(F:List (List Nat)):Prop:=∀w∈F,1≤w.length∧w.length≤10
def sz(w:List Nat):Nat:=H_ 8 w.length
def Ho(w:List Nat):PyData:=.int ((sz w:Nat):Int)
theorem Fa(l:List (List Nat)):bL (l.map Ho)=true:=by
 induction l with
 |nil=>rfl
 |cons a l ih=>show(fL (Ho a)&&bL (l.map Ho))=true;rw[ih];rfl
theorem AS:∀l:List (List Nat),rX (l.map Ho)=some (l.map fun w=>((sz w:Nat):Int))
 |[]=>rfl
 |a::l=>by
  show(rX (l.map Ho)).map (((sz a:Nat):Int):: ·)=_
  rw[AS l]
  rfl
theorem Fb(l:List (List Nat)):(l.map fun w=>((sz w:Nat):Int)).sum=(((l.map sz).sum:Nat):Int):=by
 induction l with
 |nil=>rfl
 |cons a l ih=>simp[ih]
theorem uR{w:List Nat}(hf:f E=some (.sh (av w),E))(hl:w.length≤1000000):cb d8 (af false f ai) E=some (.sh (.int (w.length:Int)),E):=by
 unfold av at hf
 simp! [hf,kz,hl]
theorem sK:∀(F:List (List Nat)) (x:Sl),Nu F→cB fg a_ dE (F.map av) [x]=some (F.map Ho)
 |[],x,_=>rfl
 |w::F,x,h=>by
  have hw:=h w (gE ..)
  have l:=uR (E:=[tS w]) (f:=aa 0) rfl (show w.length≤1000000 by omega)
  have c:dE [tS w]=some (.sh (Ho w),[tS w]):=aE (ss:=[iS (w.length:Int)]) (LU l) rfl (LW 7 w.length hw.1 (by omega))
  exact e9 (E1:=[tS w]) rfl c (sK F _ fun v hv=>h v (gQ _ hv))
theorem JY{F:List (List Nat)}(hi:it E=some (ds,E))(hl:cB tg a_ el ds (jh [none] E)=some (F.map Ho))(ll:F.length≤1000000):cb BL (af false (bh [none] it tg a_ el) ai) E=some (iS (((F.map sz).sum:Nat):Int),E):=by
 have p:bh [none] it tg a_ el E=some (.ow (F.map Ho),E):=e_ hi hl (Fa _) (by rw[eM];exact ll)
 simp only[cb,af,ai,p,Z0,Z1,fq,look,Sl.val,BL,AS,Fb,iy]
theorem LX:(Str.ofString "")=⟨([]:List Nat).toArray⟩:=by decide+kernel
theorem JZ{u v:List Nat}:(⟨u.toArray⟩:Str)=⟨v.toArray⟩↔u=v:=⟨fun h=>by simpa using h,fun h=>by rw[h]⟩
theorem LY(u v:List Nat):Ai (.str ⟨u.toArray⟩) (.str ⟨v.toArray⟩)=some (decide (u=v)):=congrArg some (decide_eq_decide.mpr JZ)
theorem AT(u:List Nat):Ai (.str ⟨u.toArray⟩) (.str "")=some (decide (u=[])):=by
 rw[LX]
 exact LY u []
theorem J0{u:List Nat}(hf:f E=some (.sh (av u),E)):d5 (ah kY false f (pC (.str ""))) E=some (decide (u=[]),E):=by
 have q:=AT u
 unfold av at hf
 simp! [hf,q]
theorem J4{X:List (List Nat)}{g:ba}{b:Bool}(hf:f E=some (s1,E))(hg:g E=some (s2,E))(l1:look E s1=some (xL X))(l2:look E s2=some (xL W))(d:Ai (xL X) (xL W)=some b):d5 (ah qP false f g) E=some (!b,E):=by
 simp only[d5,ah,hf,hg,Z0,qP,jf,l1,l2,d,Z1,iy]
structure IsR (W:List (List Nat)):Prop where
 nil:W≠[]
 set:∀w∈W,w≠[]∧NhFam.Srt w
 ord:W.Pairwise fun v w=>¬NhFam.le v w∧NhFam.jd v w
def abc:List Nat:=List.range' 97 26
theorem abc_uni:Uni abc:=⟨List.pairwise_lt_range' ..,fun a h=>by
 have:=List.mem_range'_1.mp h
 exact⟨this.1,this.2⟩,by unfold abc;rw[List.length_range'];decide⟩
theorem Fc{w:List Nat}(h:∀a∈w,az a):NhFam.le w abc:=fun a ha=>kr (h a ha)
structure Txs (W:List (List Nat)):Prop where
 az:∀w∈W,∀a∈w,az a
 tl:∀w∈W,w.length≤30
 len:W.length≤110
theorem Txs.wrt(h:Txs W):Wrt abc W:=⟨fun w hw=>Fc (h.az w hw),h.tl,by have:=h.len;omega⟩
theorem uT(a:∀w∈W,∀x∈w,az x)(h:∀w∈W,NhFam.Srt w):bY W=W:=by
 unfold bY
 conv=>rhs;rw[←List.map_id W]
 exact List.map_congr_left fun w hw=>EV (h w hw) (a w hw)
open NhFam in
theorem sL:∀(S K:List (List Nat)),(K++S).Pairwise (fun v w=>¬le v w)→cf K S=K++S
 |[],K,_=>by rw[cf,oR]
 |w::S,K,h=>by
  have n:¬(K.any (fun k=>decide (le k w))=true):=fun z=>by
   obtain⟨k,hk,e⟩:=List.any_eq_true.mp z
   exact(List.pairwise_append.mp h).2.2 k hk w (gE ..) (zz5 e)
  rw[cf,if_neg n,sL S (K++[w]) (by rw[oQ];exact h),oQ]
  rfl
open NhFam in
theorem Cz(h:W.Pairwise jd):hJ W=W:=
 List.Perm.eq_of_pairwise (fun a b _ _ x y=>nO y x) (nP W) (h.imp fun {a b} z=>gU z) (xP W _)
open NhFam in
theorem oi(a:∀w∈W,∀x∈w,az x)(h:IsR W):aA (bY W)=W:=by
 rw[uT a fun w hw=>(h.set w hw).2]
 unfold aA
 rw[Cz (h.ord.imp fun z=>z.2)]
 exact sL W [] (h.ord.imp fun z=>z.1)
open NhFam in
theorem CA(a:Txs W)(n:W≠[])(e:aA (bY W)=W)(h0:W.head? ≠some []):IsR W:=by
 have t:=cS (a.wrt.sets abc_uni)
 rw[e]at t
 refine⟨n,fun w hw=>⟨fun z=>?_,(t.sub w hw).1⟩,t.srt.imp_of_mem fun {v w} hv hw l=>⟨fun k=>?_,l⟩⟩
 ·subst z
  cases W with
  |nil=>cases hw
  |cons w0 W'=>
   have n0:w0≠[]:=fun z=>h0 (by rw[z];rfl)
   have hw':[]∈W':=(Zag.mp hw).resolve_left fun z=>n0 z.symm
   have l:=(List.pairwise_cons.mp t.srt).1 [] hw'
   exact gU l (lN (by cases w0 with
    |nil=>exact absurd rfl n0
    |cons x r=>simp))
 ·have m:=((t.mem w).mp hw).2.2 v (t.sub v hv) ((t.mem v).mp hv).2.1 k
  subst m
  exact fT _ l
theorem AU:∀(X W:List (List Nat)),PyData.eqvAll (X.map av) (W.map av)=decide (X=W)
 |[],[]=>by simp[PyData.eqvAll]
 |[],w::W=>by simp[PyData.eqvAll]
 |x::X,[]=>by simp[PyData.eqvAll]
 |x::X,w::W=>by
  have b:((⟨x.toArray⟩:Str) == ⟨w.toArray⟩)=decide (x=w):=by
   rw[Bool.eq_iff_iff,beq_iff_eq,decide_eq_true_iff]
   exact⟨fun h=>by simpa using h,fun h=>by rw[h]⟩
  simp only[gR,PyData.eqvAll,AU X W]
  simp[av,PyData.eqv,b]
theorem Hq{X:List (List Nat)}(h:∀w∈X,∀a∈w,az a)(k:∀w∈W,∀a∈w,az a):Ai (xL X) (xL W)=some (decide (X=W)):=by
 have e:Ai (xL X) (xL W)=(if SeqAt.shaped (xL X)&&SeqAt.shaped (xL W)then some (PyData.eqv (xL X) (xL W))else none):=rfl
 rw[e,sI h,sI k]
 simp only[PyData.eqv,AU,Bool.and_self,if_true]
theorem zF(h:Txs W):aQ [xL W]=some (xO (NhFam.aA (bY W))):=by
 have c:=aE (c:=aP) (g:=af false (aa 0) ai) (E:=[xS W]) (ss:=[xS W]) rfl rfl (iU abc_uni h.wrt)
 have fl:=bR (NhFam.aA (bY W))
 simp only[aQ,dD,gy,DK,dW,bq,c,Z0,Z1,fc,iC,fl,Z4,Z5,Nat.sub_self,List.replicate,gR,List.map_nil,oR,Nat.reduceAdd,iy]
def rB:jW:=nw (eQ (dZ (lA (oW .list) (aa 0)))) (d5 (ah kY false (cb d8 (af false (aa 0) ai)) (pC (.int 0))))
def KD:jW:=d5 (ah qP false (am aQ (af false (aa 0) ai)) (aa 0))
def Mn:jW:=d5 (ah kY false (ah m5 false (aa 0) (pC (.int 0))) (pC (.str "")))
theorem uU{L:List PyData}(n:L≠[])(hl:L.length≤1000000):rB [.sh (.list L)]=some (false,[.sh (.list L)]):=by
 have n0:¬((L.length:Int)=0):=by
  cases L with
  |nil=>exact absurd rfl n
  |cons a L=>simp;omega
 simp! [rB,hl,n0]
theorem Fd(h:Txs W):KD [xS W]=some (!decide (NhFam.aA (bY W)=W),[xS W]):=by
 have c:am aQ (af false (aa 0) ai) [xS W]=some (xO (NhFam.aA (bY W)),[xS W]):=aE (ss:=[xS W]) rfl rfl (zF h)
 have t:=NhFam.cS (h.wrt.sets abc_uni)
 have q:=Hq (X:=NhFam.aA (bY W)) (W:=W) (fun w hw=>abc_uni.azw (t.sub w hw)) h.az
 exact J4 c rfl rfl rfl q
theorem Fe{w:List Nat}:Mn [.sh (.list ((w::W).map av))]=some (decide (w=[]),[.sh (.list ((w::W).map av))]):=by
 refine J0 ?_
 rw[gR]
 unfold av
 simp! [if_true]
theorem Ff(h:Txs W)(r:IsR W):cq [xL W]=some (.sh .none):=by
 obtain⟨w,W',e⟩:∃w W',W=w::W':=by
  have:=r.nil
  cases W with
  |nil=>exact absurd rfl this
  |cons w W'=>exact⟨w,W',rfl⟩
 have hw:w≠[]:=(r.set w (by rw[e];exact gE ..)).1
 have g:cq [xL W]=(gN [xS W]).bind fun a=>match a.2 with |.rt r=>fc r |.nx=>some (.sh .none) |_=>none:=rfl
 have s1:bT rB cL aW [xS W]=some ([xS W],.nx):=dY (uU (by rw[e];simp) (by rw[eM];have:=h.len;omega)) rfl
 have n2:=Fd h
 rw[oi h.az r,zz4 rfl,Bool.not_true]at n2
 have s2:bT KD cL aW [xS W]=some ([xS W],.nx):=dY n2 rfl
 have n3:=Fe (w:=w) (W:=W')
 rw[←e,zz3 hw]at n3
 have s3:bT Mn cL aW [xS W]=some ([xS W],.nx):=dY n3 rfl
 rw[g]
 show((aL (bT rB cL aW) (aL (bT KD cL aW) (bT Mn cL aW))) _).bind _=_
 rw[aF s1,aF s2,s3]
 rfl
def Mo:fO:=ce bI (af false (aa 0) ai)
theorem Hr(E:List Sl):gO E=pj (qU rB (g7 "NoRule")) (jQ (bT rB cL aW) (pj (pj Mo (qU KD (g7 "NoRule"))) (jQ (bT KD cL aW) (qU Mn (g7 "NoRule"))))) E:=rfl
theorem qG{a b:fO}{x:Str×List Sl}(h:a E=some x):pj a b E=some x:=by
 unfold pj
 rw[h]
theorem jO{a b:fO}(h:a E=none):pj a b E=b E:=by
 unfold pj
 rw[h]
theorem sM{t:jW}{r:fO}(h:t E=some (true,E1)):qU t r E=r E1:=by
 unfold qU
 rw[h]
theorem oO{t:jW}{r:fO}(h:t E=some (false,E1)):qU t r E=none:=by
 unfold qU
 rw[h]
theorem FI{f:cI}{r:fO}(h:f E=some (E1,.nx)):jQ f r E=r E1:=by
 unfold jQ
 rw[h]
theorem mV{r:fO}{x:Str×List Sl}(h:ds.length=k)(e:r (dW n ds)=some x):wv k n r ds=some x.1:=by
 unfold wv
 rw[if_pos h,e]
 rfl
theorem zG{r:fO}(e:r (dW n ds)=none):wv k n r ds=none:=by
 unfold wv
 rw[e]
 split <;> rfl
def AV:fO:=qU (eQ (dZ (am cX (af false (aa 1) ai)))) (g7 "NoNails")
theorem Hs(x0:Sl)(a:Nat)(b:Bool)(h:cX [gn a]=some (bS b)):eQ (dZ (am cX (af false (aa 1) ai))) [x0,.sh (gn a)]=some (!b,[x0,.sh (gn a)]):=by
 have e:am cX (af false (aa 1) ai) [x0,.sh (gn a)]=some (bS b,[x0,.sh (gn a)]):=aE (ss:=[.sh (gn a)]) rfl rfl h
 simp only[eQ,dZ,e,Z0,Sl.val,oV,Z1]
theorem J5{g:fK}{b:cI}{r:fO}{E2:List Sl}(t:g d E=some E1)(h:r E1=none)(q:b E1=some (E2,.nx)):mI g b r (d::ds) E=mI g b r ds E2:=by
 show(g d E).bind _=_
 rw[t,Option.bind_some]
 simp only[h,q]
theorem AW(x0:Sl):∀(w:List Nat) (x:Sl),(∀a∈w,az a)→mI cg ck AV (w.map gn) [x0,x]=none
 |[],x,h=>rfl
 |a::w,x,h=>by
  have t:cg (gn a) [x0,x]=some [x0,.sh (gn a)]:=rfl
  have n:=Hs x0 a true (qz (h a (gE ..)))
  have r:AV [x0,.sh (gn a)]=none:=by unfold AV qU;rw[n];rfl
  have g:ck [x0,.sh (gn a)]=some ([x0,.sh (gn a)],.nx):=dY n rfl
  rw[gR,J5 t r g]
  exact AW x0 w _ fun b hb=>h b (gQ _ hb)
theorem Ht(w:List Nat):mP [tS w,.no]=mI cg ck AV (w.map gn) [tS w,.no]:=by
 rw[←pv]
 rfl
theorem AY{w:List Nat}(h:∀a∈w,az a):gV [av w]=none:=zG ((Ht w).trans (AW _ w _ h))
def CP(d:PyData):Prop:=gV [d]=some "NoNails"
theorem lj{r:List PyData→Option Str}{g:nq}{rs:List Sl}{n:Str}(g1:g E=some (rs,E1))(l:fq E1 rs=some ds)(h:r ds=some n):ce r g E=some (n,E1):=by
 unfold ce
 rw[g1,Option.bind_some]
 simp only[l,Z0,h,Z1]
theorem kD{r:List PyData→Option Str}{g:nq}{rs:List Sl}(g1:g E=some (rs,E1))(l:fq E1 rs=some ds)(h:r ds=none):ce r g E=none:=by
 unfold ce
 rw[g1,Option.bind_some]
 simp only[l,Z0,h,Option.map_none]
theorem Hu{re:fO}{x:Str×List Sl}(t:tg d E=some E1)(h:re E1=some x):g9 tg el re (d::ds) E=some x.1:=by
 rw[g9,t,Option.bind_some]
 simp only[h]
theorem Fg{re:fO}{r:PyData}{E2:List Sl}(t:tg d E=some E1)(h:re E1=none)(e:el E1=some (.sh r,E2)):g9 tg el re (d::ds) E=g9 tg el re ds E2:=by
 rw[g9,t,Option.bind_some]
 simp only[h,e,Z0,frz]
def CB:ba:=am eO (af false (aa 0) ai)
def wl:fO:=ce gV (af false (aa 0) ai)
def Gd(d:PyData):Prop:=∃w:List Nat,d=av w∧(∀a∈w,az a)∧w.length≤3900
theorem AZ(hd:CP d)(es:List PyData):∀(ds:List PyData) (x:Sl),(∀g∈ds,Gd g)→g9 (aO 0) CB wl (ds++d::es) [x]=some ("NoNails":Str)
 |[],x,_=>Hu (x:=("NoNails",[.sh d])) (show aO 0 d [x]=some [.sh d]from rfl) (lj (rs:=[.sh d]) (ds:=[d]) rfl rfl hd)
 |g::ds,x,h=>by
  obtain⟨w,rfl,hw,hl⟩:=h g (gE ..)
  have e1:wl [tS w]=none:=kD (rs:=[tS w]) (ds:=[av w]) rfl rfl (AY hw)
  have e2:CB [tS w]=some (tS (aG w),[tS w]):=aE (ss:=[tS w]) rfl rfl (kT hw hl)
  rw[List.cons_append,Fg (show aO 0 (av w) [x]=some [tS w]from rfl) e1 e2]
  exact AZ hd es ds _ fun g hg=>h g (gQ _ hg)
theorem xA:∀(ds:List PyData) (x:Sl),(∀g∈ds,Gd g)→g9 (aO 0) CB wl ds [x]=none
 |[],x,_=>rfl
 |g::ds,x,h=>by
  obtain⟨w,rfl,hw,hl⟩:=h g (gE ..)
  have e1:wl [tS w]=none:=kD (rs:=[tS w]) (ds:=[av w]) rfl rfl (AY hw)
  have e2:CB [tS w]=some (tS (aG w),[tS w]):=aE (ss:=[tS w]) rfl rfl (kT hw hl)
  rw[Fg (show aO 0 (av w) [x]=some [tS w]from rfl) e1 e2]
  exact xA ds _ fun g hg=>h g (gQ _ hg)
theorem Fh(L:List PyData)(hl:L.length≤1000000):gM [.sh (.list L)]=(g9 (aO 0) CB wl L [.no]).map fun n=>(n,[.sh (.list L)]):=by
 show wC [none] (bw (aa 0)) (aO 0) CB wl [.sh (.list L)]=_
 have e:bw (aa 0) [.sh (.list L)]=some (L,[.sh (.list L)]):=rfl
 unfold wC
 rw[e,Option.bind_some]
 simp only[if_pos hl]
 rfl
theorem uW{es:List PyData}(hd:CP d)(h:∀g∈ds,Gd g)(hl:(ds++d::es).length≤1000000):bO [.list (ds++d::es)]=some ("NoNails":Str):=
 mV (x:=("NoNails",_)) rfl ((Fh _ hl).trans (by rw[AZ hd es ds _ h];rfl))
theorem lm{L:List PyData}(h:∀g∈L,Gd g)(hl:L.length≤1000000):bO [.list L]=none:=
 zG ((Fh _ hl).trans (by rw[xA L _ h];rfl))
theorem fm(h:oW .list d=some (.bool false)):bv [d]=some ("NoRule":Str):=by
 have t:rB [.sh d]=some (true,[.sh d]):=by
  unfold rB nw eQ dZ lA
  simp only[aa,Z2,Z0,look,Sl.val,h,Z1,oV,iy]
 exact mV (x:=("NoRule",[.sh d])) rfl ((Hr _).trans (qG ((sM t).trans rfl)))
theorem CC:bv [.list []]=some ("NoRule":Str):=by kernel_rfl
theorem o_{es:List PyData}(hd:CP d)(h:∀g∈ds,Gd g)(hl:(ds++d::es).length≤1000000):bI [.list (ds++d::es)]=some ("NoRule":Str):=by
 have c:=lj (E:=[.sh (.list (ds++d::es))]) (g:=af false (aa 0) ai) (E1:=[.sh (.list (ds++d::es))]) (rs:=[.sh (.list (ds++d::es))]) (ds:=[.list (ds++d::es)]) rfl rfl (uW hd h hl)
 refine mV (x:=("NoRule",[.sh (.list (ds++d::es))])) rfl ?_
 show p9 ["NoNails"] "NoRule" (ce bO (af false (aa 0) ai)) _=_
 unfold p9
 rw[show dW 1 [PyData.list (ds++d::es)]=[.sh (.list (ds++d::es))]from rfl,c]
 rfl
theorem jc{L:List PyData}(h:∀g∈L,Gd g)(hl:L.length≤1000000):bI [.list L]=none:=by
 have c:=kD (E:=[.sh (.list L)]) (g:=af false (aa 0) ai) (E1:=[.sh (.list L)]) (rs:=[.sh (.list L)]) (ds:=[.list L]) rfl rfl (lm h hl)
 refine zG ?_
 show p9 ["NoNails"] "NoRule" (ce bO (af false (aa 0) ai)) _=_
 unfold p9
 rw[show dW 1 [PyData.list L]=[.sh (.list L)]from rfl,c]
theorem Hv{es:List PyData}(hd:CP d)(h:∀g∈ds,Gd g)(hl:(ds++d::es).length≤1000000):bv [.list (ds++d::es)]=some ("NoRule":Str):=by
 have n1:=uU (L:=ds++d::es) (by simp) hl
 have s1:bT rB cL aW [.sh (.list (ds++d::es))]=some ([.sh (.list (ds++d::es))],.nx):=dY n1 rfl
 have c:Mo [.sh (.list (ds++d::es))]=some (("NoRule":Str),[.sh (.list (ds++d::es))]):=lj (rs:=[.sh (.list (ds++d::es))]) (ds:=[.list (ds++d::es)]) rfl rfl (o_ hd h hl)
 exact mV (x:=("NoRule",[.sh (.list (ds++d::es))])) rfl ((Hr _).trans ((jO (oO n1)).trans ((FI s1).trans (qG (qG c)))))
theorem Txs.gd(h:Txs W):∀g∈W.map av,Gd g:=fun g hg=>by
 obtain⟨w,hw,rfl⟩:=Zbf.mp hg
 exact⟨w,rfl,h.az w hw,by have:=h.tl w hw;omega⟩
theorem Hw(h:Txs W)(n:W≠[])(r:¬IsR W):bv [xL W]=some ("NoRule":Str):=by
 have hl:(W.map av).length≤1000000:=by rw[eM];have:=h.len;omega
 have n1:=uU (L:=W.map av) (by simpa using n) hl
 have s1:bT rB cL aW [xS W]=some ([xS W],.nx):=dY n1 rfl
 have c:Mo [xS W]=none:=kD (rs:=[xS W]) (E1:=[xS W]) (ds:=[xL W]) rfl rfl (jc h.gd hl)
 have n2:=Fd h
 refine mV (x:=("NoRule",[xS W])) rfl ((Hr _).trans ((jO (oO n1)).trans ((FI s1).trans ?_)))
 by_cases e:NhFam.aA (bY W)=W
 ·rw[zz4 e,Bool.not_true]at n2
  have s2:bT KD cL aW [xS W]=some ([xS W],.nx):=dY n2 rfl
  refine(jO ((jO c).trans (oO n2))).trans ((FI s2).trans ?_)
  cases W with
  |nil=>exact absurd rfl n
  |cons w W'=>
   have hw:w=[]:=Decidable.byContradiction fun z=>r (CA h n e fun k=>z (Option.some.inj k))
   have n3:=Fe (w:=w) (W:=W')
   rw[zz4 hw]at n3
   exact(sM n3).trans rfl
 ·rw[zz3 e,Bool.not_false]at n2
  exact qG ((jO c).trans ((sM n2).trans rfl))
def mt(L:List (List Nat)):List (List Nat):=NhFam.sy L (aG L.flatten)
structure R10 (L:List (List Nat)):Prop where
 t:Txs L
 r:IsR L
 ten:(aG L.flatten).length≤10
theorem J6(t:Txs L):∀a∈L.flatten,az a:=fun a ha=>by
 obtain⟨w,hw,ha⟩:=List.mem_flatten.mp ha
 exact t.az w hw a ha
theorem R10.u(h:R10 L):Uni (aG L.flatten):=⟨fW _,fun a ha=>J6 h.t a (inOrd_mem.mp ha).2,by have:=h.ten;omega⟩
theorem R10.w(h:R10 L):Wrt (aG L.flatten) L:=⟨fun w hw a ha=>inOrd_mem.mpr ⟨kr (h.t.az w hw a ha),List.mem_flatten.mpr ⟨w,hw,ha⟩⟩,h.t.tl,by have:=h.t.len;omega⟩
theorem R10.self(h:R10 L):bY L=L:=uT h.t.az fun w hw=>(h.r.set w hw).2
theorem R10.meet(h:R10 L):NhFam.Told (aG L.flatten) (mt L) (NhFam.i8 L):=by
 have:=nQ h.u h.w
 rwa [h.self]at this
theorem R10.few(h:R10 L):Nu (mt L):=fun w hw=>by
 have s:=h.meet.sub w hw
 have f:=((h.meet.mem w).mp hw).2.1
 refine⟨?_,jP (NhFam.dJ s.1 h.u.srt s.2).length_le h.ten⟩
 cases L with
 |nil=>exact absurd rfl h.r.nil
 |cons v L'=>
  obtain⟨x,_,hx⟩:=f v (gE ..)
  exact List.length_pos_of_mem hx
theorem Hx(h:R10 L):bJ [xL L]=some (xO (mt L)):=by
 have:=o9 h.u h.w h.ten
 rwa [h.self]at this
theorem sN(h:R10 L):aI [xL L]=some (iS ((((mt L).map sz).sum:Nat):Int)):=by
 have s1:fA (am cq (af false (aa 0) ai)) [xS L]=some ([xS L],.nx):=uQ (aE (ss:=[xS L]) rfl rfl (Ff h.t h.r))
 have c2:am bJ (af false (aa 0) ai) [xS L]=some (xO (mt L),[xS L]):=aE (ss:=[xS L]) rfl rfl (Hx h)
 have i2:bw (am bJ (af false (aa 0) ai)) [xS L]=some ((mt L).map av,[xS L]):=by
  unfold bw
  rw[c2]
  rfl
 have ll:=w_ h.u h.ten h.meet
 have s2:=JY i2 (sK (mt L) .no h.few) (by omega)
 have g:aI [xL L]=(dI [xS L]).bind fun a=>match a.2 with |.rt r=>fc r |.nx=>some (.sh .none) |_=>none:=rfl
 rw[g,dI,aF s1]
 simp only[bq,s2,Z1,Z0,fc]
 rfl
def uX:List (List Nat)→List (List Nat)
 |[]=>[[]]
 |p::ps=>p.flatMap fun x=>(uX ps).map (x:: ·)
theorem chs_mem{p:List Nat}{ps:List (List Nat)}{t:List Nat}:t∈uX (p::ps)↔∃x∈p,∃s∈uX ps,t=x::s:=by
 simp only[uX,List.mem_flatMap,Zbf]
 exact⟨fun⟨x,hx,s,hs,e⟩=>⟨x,hx,s,hs,e.symm⟩,fun⟨x,hx,s,hs,e⟩=>⟨x,hx,s,hs,e.symm⟩⟩
theorem xB{w:List Nat}:∀{L:List (List Nat)},NhFam.i8 L w→∃t∈uX L,NhFam.le t w
 |[],_=>⟨[],by simp[uX],fun x hx=>by cases hx⟩
 |p::ps,h=>by
  obtain⟨x,hx,xw⟩:=h p (gE ..)
  obtain⟨t,ht,l⟩:=xB (L:=ps) fun v hv=>h v (gQ _ hv)
  refine⟨x::t,chs_mem.mpr ⟨x,hx,t,ht,rfl⟩,fun y hy=>?_⟩
  rcases Zag.mp hy with rfl |hy
  ·exact xw
  ·exact l y hy
theorem sO:∀{L:List (List Nat)} {t:List Nat},t∈uX L→NhFam.i8 L t
 |[],_,_=>fun v hv=>by cases hv
 |p::ps,t,h=>fun v hv=>by
  obtain⟨x,hx,s,hs,rfl⟩:=chs_mem.mp h
  rcases Zag.mp hv with rfl |hv
  ·exact⟨x,hx,gE ..⟩
  ·obtain⟨y,yv,ys⟩:=sO hs v hv
   exact⟨y,yv,gQ _ ys⟩
theorem uY:∀{L:List (List Nat)} {t:List Nat},t∈uX L→∀y∈t,∃q∈L,y∈q
 |[],t,h,y,hy=>by
  rw[uX,Zaf]at h
  rw[h]at hy
  cases hy
 |p::ps,t,h,y,hy=>by
  obtain⟨x,hx,s,hs,rfl⟩:=chs_mem.mp h
  rcases Zag.mp hy with rfl |hy
  ·exact⟨p,gE ..,hx⟩
  ·obtain⟨q,hq,yq⟩:=uY hs y hy
   exact⟨q,gQ _ hq,yq⟩
def Nd(L:List (List Nat)):Prop:=L.Pairwise fun p q=>∀x∈p,x∉q
theorem A_:∀{L:List (List Nat)} {t:List Nat},Nd L→t∈uX L→∀p∈L,∀x∈t,∀y∈t,x∈p→y∈p→x=y
 |[],_,_,_,p,hp,_,_,_,_,_,_=>by cases hp
 |p::ps,t,d,h,q,hq,x,hx,y,hy,xq,yq=>by
  obtain⟨z,hz,s,hs,rfl⟩:=chs_mem.mp h
  obtain⟨d1,d2⟩:=List.pairwise_cons.mp d
  have out:∀y∈s,y∉p:=fun y ys yp=>by
   obtain⟨r,hr,yr⟩:=uY hs y ys
   exact d1 r hr y yp yr
  rcases Zag.mp hq with rfl |hq
  ·rcases Zag.mp hx with rfl |hx
   ·rcases Zag.mp hy with rfl |hy
    ·rfl
    ·exact absurd yq (out y hy)
   ·exact absurd xq (out x hx)
  ·have no:∀y∈z::s,y∈q→y∈s:=fun y hy yq=>by
    rcases Zag.mp hy with rfl |hy
    ·exact absurd yq (d1 q hq y hz)
    ·exact hy
   exact A_ d2 hs q hq x (no x hx xq) y (no y hy yq) xq yq
theorem J7(h:R10 L)(d:Nd L)(w:List Nat):w∈mt L↔w∈(uX L).map aG:=by
 have lw:∀{t:List Nat},t∈uX L→∀a∈t,a∈aG L.flatten∧a∈aG t:=fun {t} ht a ha=>by
  obtain⟨q,hq,aq⟩:=uY ht a ha
  have z:=kr (h.t.az q hq a aq)
  exact⟨inOrd_mem.mpr ⟨z,List.mem_flatten.mpr ⟨q,hq,aq⟩⟩,inOrd_mem.mpr ⟨z,ha⟩⟩
 have sub:∀{t:List Nat},t∈uX L→NhFam.Sub (aG L.flatten) (aG t):=fun {t} ht=>⟨fW t,fun a ha=>(lw ht a (inOrd_mem.mp ha).2).1⟩
 have mts:∀{t:List Nat},t∈uX L→NhFam.i8 L (aG t):=fun {t} ht v hv=>by
  obtain⟨x,xv,xt⟩:=sO ht v hv
  exact⟨x,xv,(lw ht x xt).2⟩
 rw[h.meet.mem w,Zbf]
 constructor
 ·rintro⟨s,m,k⟩
  obtain⟨t,ht,l⟩:=xB m
  exact⟨t,ht,k _ (sub ht) (mts ht) fun a ha=>l a (inOrd_mem.mp ha).2⟩
 ·rintro⟨t,ht,rfl⟩
  refine⟨sub ht,mts ht,fun v sv mv l=>?_⟩
  refine sv.1.ext (fW t) l fun x hx=>?_
  have xt:=(inOrd_mem.mp hx).2
  obtain⟨p,hp,xp⟩:=uY ht x xt
  obtain⟨y,yp,yv⟩:=mv p hp
  rw[A_ d ht p hp x xt y (inOrd_mem.mp (l y yv)).2 xp yp]
  exact yv
theorem J8(h:R10 L)(d:Nd L)(n:((uX L).map aG).Nodup):((mt L).map sz).sum=(((uX L).map aG).map sz).sum:=by
 have p:(mt L).Perm ((uX L).map aG):=(List.perm_ext_iff_of_nodup (NhFam.kO h.meet.srt) n).mpr fun w=>J7 h d w
 exact(p.map sz).sum_nat
theorem oP(f:α→Bool):∀l:List α,gI (l.map fun a=>PyData.bool (f a))=some (l.map f)
 |[]=>rfl
 |a::l=>by
  show(gI (l.map fun a=>PyData.bool (f a))).map (f a:: ·)=_
  rw[oP f l]
  rfl
theorem sP(f:α→Bool):∀l:List α,bL (l.map fun a=>PyData.bool (f a))=true
 |[]=>rfl
 |a::l=>by show(fL (.bool (f a))&&_)=true;rw[sP f l];rfl
theorem Ia(h:f E=some (.ow ds,E)):bw f E=some (ds,E):=by
 unfold bw
 rw[h]
 rfl
theorem J9(w:List Nat)(a:Nat):bX [.sh (.str ⟨#[a]⟩),tS w]=some (bS (decide (a∈w)),[.sh (.str ⟨#[a]⟩),tS w]):=by
 have o:=AL w a
 simp! [bX,av,o,Bool.not_not]
theorem Ba(w:List Nat):∀(v:List Nat) (x:Sl),cB cU a_ bX (v.map gn) [x,tS w]=some (v.map fun a=>PyData.bool (decide (a∈w)))
 |[],x=>rfl
 |a::v,x=>by
  have t:cU (gn a) [x,tS w]=some [.sh (gn a),tS w]:=rfl
  exact e9 t (J9 w a) (Ba w v _)
theorem J_(v w:List Nat):(v.map fun a=>decide (a∈w)).all id=decide (NhFam.le v w):=by
 rw[List.all_map]
 exact Bool.eq_iff_iff.mpr (by rw[decide_eq_true_iff];simp[NhFam.le])
theorem Ka(w:List Nat)(x1:Sl)(v:List Nat)(hv:v.length≤1000):dZ (cb Gz (af false (bh [none,some 0] (bw (aa 2)) cU a_ bX) ai)) [tS w,x1,tS v]=some (decide (NhFam.le v w),[tS w,x1,tS v]):=by
 have it:bw (aa 2) [tS w,x1,tS v]=some (v.map gn,[tS w,x1,tS v]):=by
  simp! [av,pv]
 have k:=e_ (js:=[none,some 0]) it (Ba w v .no) (sP _ v) (by rw[eM];omega)
 have bo:=oP (fun a=>decide (a∈w)) v
 have al:=J_ v w
 simp only[dZ,cb,af,ai,k,Z0,Z1,fq,look,Sl.val,Gz,bo,al,oV,iy]
theorem xC(w:List Nat)(x1:Sl):∀(K:List (List Nat)) (a:Sl),(∀k∈K,k.length≤1000)→∃E,bB bn aY (K.map av) [tS w,x1,a]=some (E,if K.any (fun k=>decide (NhFam.le k w))then .rt (bS true)else .nx)
 |[],a,_=>⟨_,rfl⟩
 |k::K,a,h=>by
  have t1:=Ka w x1 k (h k (gE ..))
  have tg:bn (av k) [tS w,x1,a]=some [tS w,x1,tS k]:=rfl
  by_cases q:NhFam.le k w
  ·rw[zz4 q]at t1
   refine⟨[tS w,x1,tS k],?_⟩
   have st:(bn (av k) [tS w,x1,a]).bind aY=some ([tS w,x1,tS k],.rt (bS true)):=by
    rw[tg,Option.bind_some,aY]
    exact fV t1 rfl
   rw[gR,bB,st,List.any_cons,zz4 q]
   rfl
  ·rw[zz3 q]at t1
   obtain⟨E,ih⟩:=xC w x1 K (tS k) fun v hv=>h v (gQ _ hv)
   refine⟨E,?_⟩
   have st:(bn (av k) [tS w,x1,a]).bind aY=some ([tS w,x1,tS k],.nx):=by
    rw[tg,Option.bind_some,aY]
    exact dY t1 rfl
   rw[gR,bB,st,List.any_cons,zz3 q,Bool.false_or]
   exact ih
theorem Fi(w:List Nat)(K:List (List Nat))(h:∀k∈K,k.length≤1000):b_ [av w,xL K]=some (bS (K.any fun k=>decide (NhFam.le k w))):=by
 obtain⟨E,e⟩:=xC w (xS K) K .no h
 have g:b_ [av w,xL K]=(eI [tS w,xS K,.no]).bind fun a=>match a.2 with |.rt r=>fc r |.nx=>some (.sh .none) |_=>none:=rfl
 have it:bw (aa 1) [tS w,xS K,.no]=some (K.map av,[tS w,xS K,.no]):=rfl
 rw[g,eI]
 cases q:K.any (fun k=>decide (NhFam.le k w))with
 |true=>
  rw[q]at e
  have fo:eR (bw (aa 1)) bn aY [tS w,xS K,.no]=some (E,.rt (bS true)):=by
   unfold eR
   rw[it,Option.bind_some]
   exact e
  simp only[aL,fo,Z0]
  rfl
 |false=>
  rw[q]at e
  have fo:eR (bw (aa 1)) bn aY [tS w,xS K,.no]=some (E,.nx):=by
   unfold eR
   rw[it,Option.bind_some]
   exact e
  rw[aF fo]
  rfl
theorem Fj(x0 x2:Sl):∀(S K:List (List Nat)) (a:Sl),(∀k∈S,k.length≤1000)→(∀k∈K,k.length≤1000)→K.length+S.length≤2000→∃a',bB di cH (S.map av) [x0,.ow (K.map av),x2,a]=some ([x0,.ow ((NhFam.cf K S).map av),x2,a'],.nx)
 |[],K,a,_,_,_=>⟨a,rfl⟩
 |w::S,K,a,hS,hK,hl=>by
  have tg:di (av w) [x0,.ow (K.map av),x2,a]=some [x0,.ow (K.map av),x2,.sh (av w)]:=rfl
  have c3:am b_ (af false (aa 3) (af false (aa 1) ai)) [x0,.ow (K.map av),x2,.sh (av w)]=some (.sh (.bool (K.any (fun k=>decide (NhFam.le k w)))),[x0,.ow (K.map av),x2,.sh (av w)]):=aE (ss:=[.sh (av w),.al 1]) rfl rfl (Fi w K hK)
  have c2:eQ (dZ (am b_ (af false (aa 3) (af false (aa 1) ai)))) [x0,.ow (K.map av),x2,.sh (av w)]=some (!K.any (fun k=>decide (NhFam.le k w)),[x0,.ow (K.map av),x2,.sh (av w)]):=by
   simp only[eQ,dZ,c3,Z0,look,Sl.val,oV,Z1]
  simp only[Z4]at hl
  by_cases h:K.any (fun k=>decide (NhFam.le k w))=true
  ·rw[h]at c2
   have st:(di (av w) [x0,.ow (K.map av),x2,a]).bind cH=some ([x0,.ow (K.map av),x2,.sh (av w)],.nx):=by
    rw[tg,Option.bind_some,cH]
    exact dY c2 rfl
   obtain⟨a',e⟩:=Fj x0 x2 S K (.sh (av w)) (fun v hv=>hS v (gQ _ hv)) hK (by omega)
   refine⟨a',?_⟩
   rw[gR,bB,st,NhFam.cf,if_pos h]
   exact e
  ·have h':K.any (fun k=>decide (NhFam.le k w))=false:=by simpa using h
   rw[h']at c2
   have b1:K.length < 1000000:=by omega
   have st:(di (av w) [x0,.ow (K.map av),x2,a]).bind cH=some ([x0,.ow ((K++[w]).map av),x2,.sh (av w)],.nx):=by
    rw[tg,Option.bind_some,cH]
    refine fV c2 ?_
    simp only[CO,Nat.reduceAdd,Nat.reduceSub,Nat.reduceLT,Nat.reduceLeDiff,eM,b1,List.map_append]
   obtain⟨a',e⟩:=Fj x0 x2 S (K++[w]) (.sh (av w)) (fun v hv=>hS v (gQ _ hv)) (fun v hv=>by
    rcases Zah.mp hv with q |q
    ·exact hK v q
    ·rw[Zaf.mp q];exact hS w (gE ..)) (by simp;omega)
   refine⟨a',?_⟩
   rw[gR,bB,st,NhFam.cf,if_neg h]
   exact e
def FJ(a b:List Nat):Bool:=decide (a≤b)
def qH(G:List (List Nat)):List (List Nat):=G.mergeSort FJ
theorem sQ(a b c:List Nat)(h:FJ a b=true)(k:FJ b c=true):FJ a c=true:=zz4 (List.le_trans (zz5 h) (zz5 k))
theorem sR(a b:List Nat):(FJ a b||FJ b a)=true:=by
 rcases List.le_total a b with h |h
 ·simp[FJ,h]
 ·simp[FJ,h]
theorem srtW_mem{G:List (List Nat)}{w:List Nat}:w∈qH G↔w∈G:=(xP G _).mem_iff
theorem Fm(G:List (List Nat)):(qH G).length=G.length:=(xP G _).length_eq
theorem Fn(G:List (List Nat)):iE (G.map xN)=(qH G).map xN:=
 List.Perm.eq_of_pairwise (fun _ _ _ _ h k=>mr h k) (List.pairwise_mergeSort i3 kM _) (List.pairwise_map.mpr ((List.pairwise_mergeSort sQ sR G).imp fun {a b} h=>h)) ((xP _ tN).trans ((xP G FJ).symm.map xN))
theorem Kb(w:List Nat)(n:Nat)(hw:w.length≤1000):cG [tS w,iS (n:Int)]=some (decide (w.length=n),[tS w,iS (n:Int)]):=by
 have l:=uR (E:=[tS w,iS (n:Int)]) (f:=aa 0) rfl (show w.length≤1000000 by omega)
 have:=wZ (f:=cb d8 (af false (aa 0) ai)) (g:=aa 1) (E:=[tS w,iS (n:Int)]) (y:=(n:Int)) l rfl
 rw[show decide ((w.length:Int)=(n:Int))=decide (w.length=n)from decide_eq_decide.mpr (by omega)]at this
 exact this
theorem Bc(n:Nat):∀(F:List (List Nat)) (x:Sl),(∀w∈F,w.length≤1000)→cB cE cG cF (F.map av) [x,iS (n:Int)]=some ((F.filter fun w=>decide (w.length=n)).map av)
 |[],x,_=>rfl
 |w::F,x,h=>by
  have t:cE (av w) [x,iS (n:Int)]=some [tS w,iS (n:Int)]:=rfl
  have k:=EZ (elt:=cF) t (Kb w n (h w (gE ..))) rfl (Bc n F _ fun v hv=>h v (gQ _ hv))
  rw[gR,k,List.filter_cons]
  split <;> rfl
def kF(F:List (List Nat))(lo:Nat):Nat→List (List Nat)
 | 0=>[]
 |n+1=>qH (F.filter fun w=>decide (w.length=lo))++kF F (lo+1) n
theorem qI:∀(A K B:List (List Nat)),NhFam.cf K (A++B)=NhFam.cf (NhFam.cf K A) B
 |[],K,B=>rfl
 |a::A,K,B=>by
  rw[List.cons_append,NhFam.cf,NhFam.cf]
  split
  ·exact qI A K B
  ·exact qI A _ B
theorem qJ{w:List Nat}:∀{A K:List (List Nat)},w∈NhFam.cf K A→w∈K∨w∈A
 |[],K,h=>.inl h
 |a::A,K,h=>by
  rw[NhFam.cf]at h
  split at h
  ·exact(qJ h).imp id (gQ _)
  ·rcases qJ h with q |q
   ·rcases Zah.mp q with q |q
    ·exact .inl q
    ·exact .inr (by rw[Zaf.mp q];exact gE ..)
   ·exact .inr (gQ _ q)
theorem mW:∀(A K:List (List Nat)),(NhFam.cf K A).length≤K.length+A.length
 |[],K=>by simp[NhFam.cf]
 |a::A,K=>by
  rw[NhFam.cf]
  split
  ·have:=mW A K;simp;omega
  ·have:=mW A (K++[a]);simp at this ⊢;omega
theorem Fo(F:List (List Nat))(hF:∀w∈F,w.length≤1000):∀(n lo:Nat) (K:List (List Nat)) (a b:Sl),(∀k∈K,k.length≤1000)→K.length+(kF F lo n).length≤2000→F.length < 64→∃a' b',bB dl dm (iI lo n) [xS F,xO K,a,b]=some ([xS F,xO (NhFam.cf K (kF F lo n)),a',b'],.nx)
 | 0,lo,K,a,b,_,_,_=>⟨a,b,rfl⟩
 |n+1,lo,K,a,b,hK,hl,hl2=>by
  have tg:dl (.int (lo:Int)) [xS F,xO K,a,b]=some [xS F,xO K,iS (lo:Int),b]:=rfl
  have hfl:(F.filter fun w=>decide (w.length=lo)).length≤F.length:=List.length_filter_le _ _
  have p1:bh [none,some 2] (bw (aa 0)) cE cG cF [xS F,xO K,iS (lo:Int),b]=some (xO (F.filter fun w=>decide (w.length=lo)),[xS F,xO K,iS (lo:Int),b]):=e_ (js:=[none,some 2]) rfl (Bc lo F .no hF) (bR _) (by rw[eM];omega)
  have c64:((F.filter fun w=>decide (w.length=lo)).map xN).length < 64:=by rw[eM];omega
  have p2:fZ (bh [none,some 2] (bw (aa 0)) cE cG cF) [xS F,xO K,iS (lo:Int),b]=some (xO (qH (F.filter fun w=>decide (w.length=lo))),[xS F,xO K,iS (lo:Int),b]):=by
   unfold fZ
   rw[p1,Option.bind_some]
   show((j4 ((F.filter fun w=>decide (w.length=lo)).map av)).bind _)=_
   rw[qD,Option.bind_some]
   show(if ((F.filter fun w=>decide (w.length=lo)).map xN).length < 64 then _ else _)=_
   rw[if_pos c64]
   show some (Sl.ow ((iE ((F.filter fun w=>decide (w.length=lo)).map xN)).map PyData.str),_)=_
   rw[Fn,List.map_map]
   rfl
  have i2:bw (fZ (bh [none,some 2] (bw (aa 0)) cE cG cF)) [xS F,xO K,iS (lo:Int),b]=some ((qH (F.filter fun w=>decide (w.length=lo))).map av,[xS F,xO K,iS (lo:Int),b]):=Ia p2
  have hS:∀k∈qH (F.filter fun w=>decide (w.length=lo)),k.length≤1000:=fun k hk=>hF k (List.mem_filter.mp (srtW_mem.mp hk)).1
  simp only[kF,pA]at hl
  obtain⟨b',e⟩:=Fj (xS F) (iS (lo:Int)) (qH (F.filter fun w=>decide (w.length=lo))) K b hS hK (by omega)
  have st:(dl (.int (lo:Int)) [xS F,xO K,a,b]).bind dm=some ([xS F,xO (NhFam.cf K (qH (F.filter fun w=>decide (w.length=lo)))),iS (lo:Int),b'],.nx):=by
   rw[tg,Option.bind_some,dm]
   unfold eR
   rw[i2,Option.bind_some]
   exact e
  have:=mW (qH (F.filter fun w=>decide (w.length=lo))) K
  obtain⟨a2,b2,e2⟩:=Fo F hF n (lo+1) (NhFam.cf K (qH (F.filter fun w=>decide (w.length=lo)))) (iS (lo:Int)) b' (fun k hk=>(qJ hk).elim (hK k) (hS k)) (by omega) hl2
  refine⟨a2,b2,?_⟩
  rw[iY,bB,st,kF,qI]
  exact e2
theorem uZ(F:List (List Nat)){w:List Nat}:∀(n lo:Nat),w∈kF F lo n↔w∈F∧lo≤w.length∧w.length < lo+n
 | 0,lo=>by simp[kF]
 |n+1,lo=>by
  rw[kF,Zah,srtW_mem,List.mem_filter,uZ F n (lo+1),decide_eq_true_iff]
  constructor
  ·rintro(⟨a,b⟩ |⟨a,b,c⟩)
   ·exact⟨a,by omega,by omega⟩
   ·exact⟨a,by omega,by omega⟩
  ·rintro⟨a,b,c⟩
   by_cases h:w.length=lo
   ·exact .inl ⟨a,h⟩
   ·exact .inr ⟨a,by omega,by omega⟩
theorem Kc{a b:List Nat}(h:a.length=b.length)(k:FJ a b=true):¬NhFam.jd b a:=fun z=>by
 have z':=NhSG.ltKy_iff.mp z
 simp only[NhFam.key]at z'
 rcases z' with z' |⟨_,z'⟩
 ·omega
 ·exact absurd z' (zz5 k)
theorem Bd(F:List (List Nat)):∀(n lo:Nat),(kF F lo n).Pairwise fun a b=>¬NhFam.jd b a
 | 0,lo=>List.Pairwise.nil
 |n+1,lo=>by
  rw[kF,List.pairwise_append]
  refine⟨?_,Bd F n (lo+1),fun a ha b hb=>?_⟩
  ·refine List.Pairwise.imp_of_mem (fun {a b} ha hb h=>Kc ?_ h) (List.pairwise_mergeSort sQ sR _)
   have h1:=zz5 (List.mem_filter.mp (srtW_mem.mp ha)).2
   have h2:=zz5 (List.mem_filter.mp (srtW_mem.mp hb)).2
   omega
  ·have h1:=zz5 (List.mem_filter.mp (srtW_mem.mp ha)).2
   have h2:=((uZ F n (lo+1)).mp hb).2.1
   exact NhFam.gU (NhFam.lN (by omega))
theorem Be(F:List (List Nat)):∀(n lo:Nat),(kF F lo n).length≤(F.filter fun w=>decide (lo≤w.length)).length
 | 0,lo=>zz9 _
 |n+1,lo=>by
  rw[kF,pA,Fm]
  have h:=Be F n (lo+1)
  have k:∀G:List (List Nat),(G.filter fun w=>decide (w.length=lo)).length+(G.filter fun w=>decide (lo+1≤w.length)).length=(G.filter fun w=>decide (lo≤w.length)).length:=fun G=>by
   induction G with
   |nil=>rfl
   |cons w G ih=>
    simp only[List.filter_cons]
    rcases Nat.lt_trichotomy w.length lo with q |q |q
    ·rw[if_neg (by simp;omega),if_neg (by simp;omega),if_neg (by simp;omega)];exact ih
    ·rw[if_pos (by simp;omega),if_neg (by simp;omega),if_pos (by simp;omega),List.length_cons,List.length_cons];omega
    ·rw[if_neg (by simp;omega),if_pos (by simp;omega),if_pos (by simp;omega),List.length_cons,List.length_cons];omega
  have:=k F
  omega
theorem Fp{F:List (List Nat)}(hF:∀v∈F,NhFam.Sub U v)(hl:∀v∈F,v.length < 27):NhFam.cf [] (kF F 0 27)=NhFam.aA F:=by
 have me:∀w,w∈kF F 0 27↔w∈F:=fun w=>(uZ F 27 0).trans ⟨fun h=>h.1,fun h=>⟨h,zz9 _,by have:=hl w h;omega⟩⟩
 obtain⟨a,b⟩:=NhFam.ju (kF F 0 27) [] [] (fun v hv=>(hF v ((me v).mp (by simpa using hv))).1) (fun v hv=>by cases hv) (fun v hv=>by cases hv) (fun v hv=>by cases hv) (Bd F 27 0) (fun v hv=>by cases hv) .nil
 have t:NhFam.Told U (NhFam.cf [] (kF F 0 27)) (NhFam.up F):=by
  refine⟨a,fun w=>(b w).trans ?_⟩
  rw[NhFam.uL hF]
  simp only[Z8,me]
 exact t.uniq (NhFam.cS hF) fun w _=>Iff.rfl
theorem LZ:tH (af false (pC (.int 0)) (af false (pC (.int 27)) ai)) E=some (iI 0 27,E):=by
 simp! [if_true]
 rfl
theorem mX{F:List (List Nat)}(u:Uni U)(hF:∀v∈F,NhFam.Sub U v)(hl:F.length < 64):cV [xL F]=some (xO (NhFam.aA F)):=by
 have sh:∀v∈F,v.length≤26:=fun v hv=>u.short (hF v hv)
 have cl:(kF F 0 27).length≤64:=jP (Be F 27 0) (jP (List.length_filter_le _ _) (by omega))
 obtain⟨a,b,e⟩:=Fo F (fun v hv=>by have:=sh v hv;omega) 27 0 [] .no .no (fun _ h=>by cases h) (by simp;omega) (by omega)
 rw[Fp hF fun v hv=>by have:=sh v hv;omega]at e
 have g:cV [xL F]=(gl [xS F,.no,.no,.no]).bind fun a=>match a.2 with |.rt r=>fc r |.nx=>some (.sh .none) |_=>none:=rfl
 have s1:aH 1 (cK cr) [xS F,.no,.no,.no]=some ([xS F,.ow [],.no,.no],.nx):=by simp! [if_true]
 have fo:eR (tH (af false (pC (.int 0)) (af false (pC (.int 27)) ai))) dl dm [xS F,.ow [],.no,.no]=some ([xS F,xO (NhFam.aA F),a,b],.nx):=by
  unfold eR
  rw[LZ,Option.bind_some]
  exact e
 have fl:=bR (NhFam.aA F)
 rw[g,gl,aF s1,aF fo]
 simp! [fl]
def iV(cell step:Int)(k:Nat):Nat:=97+((cell+(k:Int)*step) % 26).toNat
theorem zH{cell step:Int}(hs:∀d:Nat,1≤d→d < 26→((d:Int)*step) % 26≠0)(h:j < k)(hk:k < 26):iV cell step j≠iV cell step k:=by
 intro e
 unfold iV at e
 have m0:=Int.emod_nonneg (cell+(k:Int)*step) (show(26:Int)≠0 by decide)
 have n0:=Int.emod_nonneg (cell+(j:Int)*step) (show(26:Int)≠0 by decide)
 have e2:(cell+(k:Int)*step) % 26=(cell+(j:Int)*step) % 26:=by omega
 have e3:=Int.emod_eq_emod_iff_emod_sub_eq_zero.mp e2
 apply hs (k - j) (by omega) (by omega)
 rw[←e3]
 congr 1
 rw[show((k - j:Nat):Int)=(k:Int) - j by omega,Int.sub_mul]
 omega
theorem CD(cell step:Int)(k:Nat):az (iV cell step k):=by
 unfold iV az
 have m0:=Int.emod_nonneg (cell+(k:Int)*step) (show(26:Int)≠0 by decide)
 have m1:=Int.emod_lt_of_pos (cell+(k:Int)*step) (show(0:Int) < 26 by decide)
 generalize (cell+(k:Int)*step) % 26=z at m0 m1
 omega
theorem u_{w:List Nat}(hf:f E=some (.ow (w.map gn),E))(hl:w.length≤1000000):iD "" f E=some (.sh (av w),E):=by
 have so:=oM w
 have l:=uP w
 simp only[iD,lA,rT,hf,Z0,look,Sl.val,so,l,hl,if_true,Z1,qC,av]
theorem L3(at_ step k:Int)(m:fN step k=true):dq [iS k,aS,iS at_,iS step]=some (.sh (gn (97+((at_+step*k) % 26).toNat)),[iS k,aS,iS at_,iS step]):=by
 simp! [dq,Int.reduceLT,m,Lz,yL,gn]
theorem Ib(at_ step:Int)(h1:0≤step)(h2:step≤100):∀(n lo:Nat) (x:Sl),cB eJ a_ dq (iI lo n) [x,aS,iS at_,iS step]=some (((List.range' lo n).map (iV at_ step)).map gn)
 | 0,lo,x=>rfl
 |n+1,lo,x=>by
  have e:=Ib at_ step h1 h2 n (lo+1) (iS lo)
  have s:=L3 at_ step lo (mE (by omega) (by omega))
  rw[Int.mul_comm step]at s
  have t:eJ (.int lo) [x,aS,iS at_,iS step]=some [iS lo,aS,iS at_,iS step]:=rfl
  rw[show((lo+1:Nat):Int)=(lo:Int)+1 by omega]at e
  rw[iY,List.range'_succ,gR,gR]
  exact e9 t s e
theorem Kd:∀i,i < 6→∃v:Int,([1,3,5,7,9,11].map PyData.int)[i]? =some (.int v)∧0≤v∧v≤100∧∀d:Nat,1≤d→d < 26→((d:Int)*v) % 26≠0
 | 0,_=>⟨1,rfl,by decide,by decide,by omega⟩
 | 1,_=>⟨3,rfl,by decide,by decide,by omega⟩
 | 2,_=>⟨5,rfl,by decide,by decide,by omega⟩
 | 3,_=>⟨7,rfl,by decide,by decide,by omega⟩
 | 4,_=>⟨9,rfl,by decide,by decide,by omega⟩
 | 5,_=>⟨11,rfl,by decide,by decide,by omega⟩
theorem Ke(cell many step at_ i:Int)(hm:1+cell % 5=many)(hi:cell / 5 % 6=i)(ha:cell / 5 / 6 % 26=at_)(hs:atI ([1,3,5,7,9,11].map PyData.int) i=some (.int step))(d6:ou 6=true):
  ∃E:List Sl,E=[iS cell,iS 5,aS,iS many,iS step,iS at_]∧∀r:cI,aL (aH 2 (pC (.str "abcdefghijklmnopqrstuvwxyz"))) (aL (aH 3 (ah bK false (pC (.int 1)) (ah cJ false (aa 0) (aa 1)))) (aL (aH 4 (ah m5 false (cK (rO [1,3,5,7,9,11])) (ah cJ false (ah df false (aa 0) (aa 1)) (pC (.int 6))))) (aL (aH 5 (ah cJ false (ah df false (ah df false (aa 0) (aa 1)) (pC (.int 6))) (pC (.int 26)))) r))) [iS cell,iS 5,.no,.no,.no,.no]=r E:=by
 refine⟨_,rfl,fun r=>?_⟩
 have s2:aH 2 (pC (.str "abcdefghijklmnopqrstuvwxyz")) [iS cell,iS 5,.no,.no,.no,.no]=some ([iS cell,iS 5,aS,.no,.no,.no],.nx):=rfl
 have m6:ah cJ false (aa 0) (aa 1) [iS cell,iS 5,aS,.no,.no,.no]=some (iS (cell % 5),[iS cell,iS 5,aS,.no,.no,.no]):=iw rfl rfl (by decide)
 have s3:aH 3 (ah bK false (pC (.int 1)) (ah cJ false (aa 0) (aa 1))) [iS cell,iS 5,aS,.no,.no,.no]=some ([iS cell,iS 5,aS,iS many,.no,.no],.nx):=by
  have:=eL (i:=3) (jb (g:=pC (.int 1)) (x:=1) rfl m6) (show 3 < 6 by decide)
  rw[hm]at this
  exact this
 have f6:ah df false (aa 0) (aa 1) [iS cell,iS 5,aS,iS many,.no,.no]=some (iS (cell / 5),[iS cell,iS 5,aS,iS many,.no,.no]):=kU rfl rfl (by decide)
 have i6:ah cJ false (ah df false (aa 0) (aa 1)) (pC (.int 6)) [iS cell,iS 5,aS,iS many,.no,.no]=some (iS i,[iS cell,iS 5,aS,iS many,.no,.no]):=by
  rw[←hi]
  exact iw f6 rfl (by decide)
 have s4:aH 4 (ah m5 false (cK (rO [1,3,5,7,9,11])) (ah cJ false (ah df false (aa 0) (aa 1)) (pC (.int 6)))) [iS cell,iS 5,aS,iS many,.no,.no]=some ([iS cell,iS 5,aS,iS many,iS step,.no],.nx):=by
  have z:ah m5 false (cK (rO [1,3,5,7,9,11])) (ah cJ false (ah df false (aa 0) (aa 1)) (pC (.int 6))) [iS cell,iS 5,aS,iS many,.no,.no]=some (iS step,[iS cell,iS 5,aS,iS many,.no,.no]):=by
   generalize ah cJ false (ah df false (aa 0) (aa 1)) (pC (.int 6))=f at i6
   simp only[gR,List.map_nil]at hs
   simp! [rO,i6,hs]
  exact eL z (show 4 < 6 by decide)
 have g6:ah df false (aa 0) (aa 1) [iS cell,iS 5,aS,iS many,iS step,.no]=some (iS (cell / 5),[iS cell,iS 5,aS,iS many,iS step,.no]):=kU rfl rfl (by decide)
 have s5:aH 5 (ah cJ false (ah df false (ah df false (aa 0) (aa 1)) (pC (.int 6))) (pC (.int 26))) [iS cell,iS 5,aS,iS many,iS step,.no]=some ([iS cell,iS 5,aS,iS many,iS step,iS at_],.nx):=by
  have:=eL (i:=5) (iw (g:=pC (.int 26)) (y:=26) (kU (g:=pC (.int 6)) (y:=6) g6 rfl d6) rfl (by decide)) (show 5 < 6 by decide)
  rw[ha]at this
  exact this
 rw[aF s2,aF s3,aF s4,aF s5]
theorem vA(cell:Int):∃U:List Nat,eP [.int cell,.int 5]=some (tS U)∧Uni U∧1≤U.length∧U.length≤5:=by
 have m0:=Int.emod_nonneg (cell / 5) (show(6:Int)≠0 by decide)
 have m1:=Int.emod_lt_of_pos (cell / 5) (show(0:Int) < 6 by decide)
 have c0:=Int.emod_nonneg cell (show(5:Int)≠0 by decide)
 have c1:=Int.emod_lt_of_pos cell (show(0:Int) < 5 by decide)
 obtain⟨i,hi⟩:∃i:Nat,cell / 5 % 6=i:=⟨(cell / 5 % 6).toNat,by omega⟩
 obtain⟨n,hn⟩:∃n:Nat,1+cell % 5=n:=⟨(1+cell % 5).toNat,by omega⟩
 obtain⟨v,ev,v0,v1,v2⟩:=Kd i (by omega)
 obtain⟨E,hE,st⟩:=Ke cell n v (cell / 5 / 6 % 26) i hn hi rfl (by rw[gZ,ev]) (by decide)
 have e:=Ib (cell / 5 / 6 % 26) v v0 v1 n 0 .no
 simp only[Int.natCast_zero]at e
 generalize cell / 5 / 6 % 26=t at hE e
 have az':∀a∈(List.range' 0 n).map (iV t v),az a:=fun a ha=>by
  obtain⟨k,_,rfl⟩:=Zbf.mp ha
  exact CD t v k
 have nd:((List.range' 0 n).map (iV t v)).Nodup:=by
  rw[List.Nodup,List.pairwise_map]
  refine List.Pairwise.imp_of_mem ?_ (List.pairwise_lt_range' (s:=0) (n:=n))
  intro a b ha hb hab
  exact zH v2 hab (by have:=List.mem_range'_1.mp hb;omega)
 have ln:((List.range' 0 n).map (iV t v)).length=n:=by simp
 generalize (List.range' 0 n).map (iV t v)=w at e az' nd ln
 have i1:d9 (af false (aa 3) ai) E=some (iI 0 n,E):=qF (z:=(n:Int)) (by rw[hE];rfl) rfl (by omega)
 have p1:bh [none,some 2,some 5,some 4] (d9 (af false (aa 3) ai)) eJ a_ dq E=some (uO w,E):=e_ i1 (by rw[hE];exact e) (kq _) (by rw[eM];omega)
 have p2:=u_ (sJ p1 (by omega) nd az') (by have:=kB nd az';omega)
 have cnt:=kB nd az'
 refine⟨aG w,?_,⟨fW w,fun a ha=>az' a (inOrd_mem.mp ha).2,by omega⟩,by omega,by omega⟩
 have g:eP [.int cell,.int 5]=(gm [iS cell,iS 5,.no,.no,.no,.no]).bind fun a=>match a.2 with |.rt r=>fc r |.nx=>some (.sh .none) |_=>none:=rfl
 rw[g,gm,st]
 simp only[bq,p2,Z1,Z0,fc]
 rfl
def bt(v:Int)(j:Nat):Bool:=decide (Builtin.bitAnd (v / 2 ^ j) 1=1)
theorem L4(v:Int)(j:Nat)(x:Sl):dQ [iS (j:Int),x,iS v]=some (bt v j,[iS (j:Int),x,iS v]):=by
 have hj:(0:Int)≤(j:Int):=by omega
 unfold bt
 simp! [dQ,hj,Int.toNat_natCast]
theorem L5(U:List Nat)(j a:Nat)(x:Sl)(h:U[j]? =some a)(hl:U.length≤1000):dP [.sh (.int (j:Int)),.sh (av U),x]=some (.sh (gn a),[.sh (.int (j:Int)),.sh (av U),x]):=by
 have at_:atI (⟨U.toArray⟩:Str).cps.toList (j:Int)=some a:=by rw[gZ];exact h
 have lb:(⟨U.toArray⟩:Str).length≤1000000:=by rw[kz];omega
 unfold av gn
 simp! [dP,at_,lb]
def oj(v:Int):List Nat→Nat→List Nat
 |[],_=>[]
 |a::w,lo=>if bt v lo then a::oj v w (lo+1)else oj v w (lo+1)
theorem mY(v:Int):∀(w:List Nat) (lo:Nat),(oj v w lo).Sublist w
 |[],_=>List.Sublist.slnil
 |a::w,lo=>by
  rw[oj]
  split
  ·exact(mY v w _).cons₂ a
  ·exact(mY v w _).cons a
theorem Fq(v:Int)(U:List Nat)(hl:U.length≤1000):∀(w:List Nat) (lo:Nat) (x:Sl),U.drop lo=w→cB eU dQ dP (iI lo w.length) [x,tS U,iS v]=some ((oj v w lo).map gn)
 |[],lo,x,_=>rfl
 |a::w,lo,x,h=>by
  have hx:U[lo]? =some a:=by rw[←List.head?_drop,h];rfl
  have hw:U.drop (lo+1)=w:=by rw[←List.tail_drop,h];rfl
  have t:eU (.int (lo:Int)) [x,tS U,iS v]=some [iS (lo:Int),tS U,iS v]:=rfl
  have ih:=Fq v U hl w (lo+1) (iS (lo:Int)) hw
  rw[show((lo+1:Nat):Int)=(lo:Int)+1 by omega]at ih
  have k:=EZ t (L4 v lo _) (L5 U lo a _ hx hl) ih
  rw[List.length_cons,iY,k,oj]
  split <;> rfl
theorem L6(v:Int)(U:List Nat)(hl:U.length≤1000)(x0 x1 x3 x4 x5 x7:Sl):iD "" (bh [none,some 2,some 6] (d9 (af false (cb d8 (af false (aa 2) ai)) ai)) eU dQ dP) [x0,x1,tS U,x3,x4,x5,iS v,x7]=some (tS (oj v U 0),[x0,x1,tS U,x3,x4,x5,iS v,x7]):=by
 have l:=uR (E:=[x0,x1,tS U,x3,x4,x5,iS v,x7]) (f:=aa 2) rfl (show U.length≤1000000 by omega)
 have i1:=qF l rfl hl
 have sl:=(mY v U 0).length_le
 have c:=Fq v U hl U 0 .no rfl
 have p1:=e_ (js:=[none,some 2,some 6]) i1 c (kq _) (by rw[eM];omega)
 exact u_ p1 (by omega)
def Drn(U:List Nat)(O:List (List Nat)):Prop:=∀w∈O,w≠[]∧w.Sublist U
theorem Drn.app{A B:List (List Nat)}(a:Drn U A)(b:Drn U B):Drn U (A++B):=fun w h=>(Zah.mp h).elim (a w) (b w)
theorem Kf(cell:Int)(k:Nat)(hk:k≤100)(x0 x1 x2 x3 x6 x7:Sl):∃v:Int,∀r:cI,aL (aH 6 (ah DT false (ah df false (aa 4) (pC (.int 3))) (ah iH false (pC (.int 6)) (aa 5)))) (aL (bT (d5 (ah (jf (g5 .lt)) false (cb vT (af false (aa 4) ai)) (ah vR false (pC (.int 10)) (pC (.int 18))))) (aH 6 (am dF (af false (aa 4) (af false (ah bK false (pC (.int 30)) (aa 5)) ai)))) aW) r) [x0,x1,x2,x3,iS cell,iS (k:Int),x6,x7]=r [x0,x1,x2,x3,iS cell,iS (k:Int),iS v,x7]:=by
 obtain⟨z,ez⟩:=zD cell (30+k) (by omega)
 rw[show((30+k:Nat):Int)=30+(k:Int) by omega]at ez
 have d3:ou 3=true:=by decide
 have m6:fN 6 (k:Int)=true:=mE (by decide) (by decide)
 have h6:(0:Int)≤6*(k:Int):=by omega
 obtain⟨v0,s1⟩:∃v0:Int,aH 6 (ah DT false (ah df false (aa 4) (pC (.int 3))) (ah iH false (pC (.int 6)) (aa 5))) [x0,x1,x2,x3,iS cell,iS (k:Int),x6,x7]=some ([x0,x1,x2,x3,iS cell,iS (k:Int),iS v0,x7],.nx):=by
  simp! [d3,m6,h6]
  exact⟨_,rfl⟩
 by_cases c1:(if cell < 0 then -cell else cell) < 1000000000000000000
 ·have c:d5 (ah (jf (g5 .lt)) false (cb vT (af false (aa 4) ai)) (ah vR false (pC (.int 10)) (pC (.int 18)))) [x0,x1,x2,x3,iS cell,iS (k:Int),iS v0,x7]=some (true,[x0,x1,x2,x3,iS cell,iS (k:Int),iS v0,x7]):=by
   simp! [Int.reduceToNat,Int.reducePow,Int.reduceNeg,Int.reduceLT,Int.reduceLE,Nat.reducePow,and_self,c1]
  have ad:ah bK false (pC (.int 30)) (aa 5) [x0,x1,x2,x3,iS cell,iS (k:Int),iS v0,x7]=some (iS (30+(k:Int)),[x0,x1,x2,x3,iS cell,iS (k:Int),iS v0,x7]):=jb rfl rfl
  have m:am dF (af false (aa 4) (af false (ah bK false (pC (.int 30)) (aa 5)) ai)) [x0,x1,x2,x3,iS cell,iS (k:Int),iS v0,x7]=some (iS z,[x0,x1,x2,x3,iS cell,iS (k:Int),iS v0,x7]):=aE (ss:=[iS cell,iS (30+(k:Int))]) (LT rfl ad) rfl ez
  have s2:bT (d5 (ah (jf (g5 .lt)) false (cb vT (af false (aa 4) ai)) (ah vR false (pC (.int 10)) (pC (.int 18))))) (aH 6 (am dF (af false (aa 4) (af false (ah bK false (pC (.int 30)) (aa 5)) ai)))) aW [x0,x1,x2,x3,iS cell,iS (k:Int),iS v0,x7]=some ([x0,x1,x2,x3,iS cell,iS (k:Int),iS z,x7],.nx):=fV c (eL m (show 6 < 8 by decide))
  exact⟨z,fun r=>by rw[aF s1,aF s2]⟩
 ·have c:d5 (ah (jf (g5 .lt)) false (cb vT (af false (aa 4) ai)) (ah vR false (pC (.int 10)) (pC (.int 18)))) [x0,x1,x2,x3,iS cell,iS (k:Int),iS v0,x7]=some (false,[x0,x1,x2,x3,iS cell,iS (k:Int),iS v0,x7]):=by
   simp! [Int.reduceToNat,Int.reducePow,Int.reduceNeg,Int.reduceLT,Int.reduceLE,Nat.reducePow,and_self,c1]
  have s2:bT (d5 (ah (jf (g5 .lt)) false (cb vT (af false (aa 4) ai)) (ah vR false (pC (.int 10)) (pC (.int 18))))) (aH 6 (am dF (af false (aa 4) (af false (ah bK false (pC (.int 30)) (aa 5)) ai)))) aW [x0,x1,x2,x3,iS cell,iS (k:Int),iS v0,x7]=some ([x0,x1,x2,x3,iS cell,iS (k:Int),iS v0,x7],.nx):=dY c rfl
  exact⟨v0,fun r=>by rw[aF s1,aF s2]⟩
theorem Kg{u:List Nat}(hf:f E=some (.sh (av u),E)):d5 (ah qP false f (pC (.str ""))) E=some (!decide (u=[]),E):=by
 have q:=AT u
 unfold av at hf
 simp! [hf,q]
theorem L7(U:List Nat)(hU:U.length≤1000)(cell:Int)(k:Nat)(hk:k≤100)(x0 x1 x5 x6 x7:Sl)(F:List (List Nat))(hF:F.length≤1000):∃(O:List (List Nat)) (v o:Sl),(eW (.int (k:Int)) [x0,x1,.sh (av U),.ow (F.map av),.sh (.int cell),x5,x6,x7]).bind eX=some ([x0,x1,.sh (av U),.ow ((F++O).map av),.sh (.int cell),.sh (.int (k:Int)),v,o],.nx)∧O.length≤1∧Drn U O:=by
 obtain⟨v,hv⟩:=Kf cell k hk x0 x1 (.sh (av U)) (.ow (F.map av)) x6 x7
 have s3:=eL (i:=7) (L6 v U hU x0 x1 (.ow (F.map av)) (.sh (.int cell)) (.sh (.int (k:Int))) x7) (show 7 < 8 by decide)
 have tg:eW (.int (k:Int)) [x0,x1,.sh (av U),.ow (F.map av),.sh (.int cell),x5,x6,x7]=some [x0,x1,.sh (av U),.ow (F.map av),.sh (.int cell),.sh (.int (k:Int)),x6,x7]:=rfl
 have c:=Kg (E:=[x0,x1,.sh (av U),.ow (F.map av),.sh (.int cell),.sh (.int (k:Int)),.sh (.int v),.sh (av (oj v U 0))]) (f:=aa 7) (u:=oj v U 0) rfl
 rw[tg,Option.bind_some,eX,hv,aF s3]
 by_cases h:oj v U 0=[]
 ·rw[zz4 h]at c
  exact⟨[],_,_,by rw[oR];exact dY c rfl,by simp,fun _ h=>by cases h⟩
 ·rw[zz3 h]at c
  have b1:F.length < 1000000:=by omega
  refine⟨[oj v U 0],.sh (.int v),.sh (av (oj v U 0)),fV c ?_,by simp,fun w hw=>?_⟩
  ·show fA (gH 3 (aa 7)) [x0,x1,.sh (av U),.ow (F.map av),.sh (.int cell),.sh (.int (k:Int)),.sh (.int v),.sh (av (oj v U 0))]=_
   simp only[CO,Nat.reduceAdd,Nat.reduceSub,Nat.reduceLT,Nat.reduceLeDiff,eM,b1,List.map_append]
  ·rw[Zaf.mp hw]
   exact⟨h,mY v U 0⟩
theorem Ic(U:List Nat)(hU:U.length≤1000)(cell:Int)(x0 x1:Sl):∀(n lo:Nat) (F:List (List Nat)) (x5 x6 x7:Sl),lo+n≤100→F.length+n≤1000→∃(O:List (List Nat)) (a v o:Sl),bB eW eX (iI lo n) [x0,x1,tS U,xO F,iS cell,x5,x6,x7]=some ([x0,x1,tS U,xO (F++O),iS cell,a,v,o],.nx)∧O.length≤n∧Drn U O
 | 0,lo,F,x5,x6,x7,_,_=>⟨[],x5,x6,x7,by rw[oR];rfl,fz _,fun _ h=>by cases h⟩
 |n+1,lo,F,x5,x6,x7,h1,h2=>by
  obtain⟨O,v,o,e,l,d⟩:=L7 U hU cell lo (by omega) x0 x1 x5 x6 x7 F (by omega)
  obtain⟨O2,a2,v2,o2,e2,l2,d2⟩:=Ic U hU cell x0 x1 n (lo+1) (F++O) (iS (lo:Int)) v o (by omega) (by rw[pA];omega)
  rw[show((lo+1:Nat):Int)=(lo:Int)+1 by omega]at e2
  refine⟨O++O2,a2,v2,o2,?_,by rw[pA];omega,d.app d2⟩
  rw[iY,bB,e,←oQ]
  exact e2
theorem Id(U:List Nat)(hU:U.length≤1000)(x0 x1:Sl):∀(cs:List Int) (F:List (List Nat)) (x4 x5 x6 x7:Sl),F.length+3*cs.length≤1000→∃(O:List (List Nat)) (b a v o:Sl),bB eY c8 (cs.map .int) [x0,x1,tS U,xO F,x4,x5,x6,x7]=some ([x0,x1,tS U,xO (F++O),b,a,v,o],.nx)∧O.length≤3*cs.length∧Drn U O
 |[],F,x4,x5,x6,x7,_=>⟨[],x4,x5,x6,x7,by rw[oR];rfl,fz _,fun _ h=>by cases h⟩
 |c::cs,F,x4,x5,x6,x7,h=>by
  simp only[Z4]at h
  have m0:=Int.emod_nonneg c (show(3:Int)≠0 by decide)
  have m1:=Int.emod_lt_of_pos c (show(0:Int) < 3 by decide)
  obtain⟨n,hn⟩:∃n:Nat,1+c % 3=n:=⟨(1+c % 3).toNat,by omega⟩
  obtain⟨O,a,v,o,e,l,d⟩:=Ic U hU c x0 x1 n 0 F x5 x6 x7 (by omega) (by omega)
  have ad:ah bK false (pC (.int 1)) (ah cJ false (aa 4) (pC (.int 3))) [x0,x1,tS U,xO F,iS c,x5,x6,x7]=some (iS (1+c % 3),[x0,x1,tS U,xO F,iS c,x5,x6,x7]):=jb rfl (iw (f:=aa 4) (g:=pC (.int 3)) (y:=3) rfl rfl (by decide))
  have st:(eY (.int c) [x0,x1,tS U,xO F,x4,x5,x6,x7]).bind c8=some ([x0,x1,tS U,xO (F++O),iS c,a,v,o],.nx):=by
   show c8 [x0,x1,tS U,xO F,iS c,x5,x6,x7]=_
   unfold c8 eR
   rw[qF ad hn (by omega),Option.bind_some]
   exact e
  obtain⟨O2,b2,a2,v2,o2,e2,l2,d2⟩:=Id U hU x0 x1 cs (F++O) (iS c) a v o (by rw[pA];omega)
  refine⟨O++O2,b2,a2,v2,o2,?_,by rw[pA,List.length_cons];omega,d.app d2⟩
  rw[gR,bB,st,←oQ]
  exact e2
theorem CF(ns:List Int):(qR ns (some ((1:Int)+1)) (some (1+8))).length≤7:=by
 unfold qR
 rw[List.length_take]
 refine jP (Nat.min_le_left _ _) ?_
 rw[show(1:Int)+1=((2:Nat):Int)from rfl,show(1:Int)+8=((9:Nat):Int)from rfl,HT.zZ,HT.zZ]
 omega
theorem xD(u:Uni U)(ns:List Int)(hl:ns.length≤63):∃O:List (List Nat),ft [.list (ns.map .int),.int 1,av U]=some (.ow ((NhFam.aA (O++[U])).map av))∧Drn U O∧O.length≤24:=by
 have e0:=sC ns 1
 have uu:=u.len
 obtain⟨O,b,a,v,o,e,l,d⟩:=Id U (by omega) (.sh (.list (ns.map .int))) (.sh (.int 1)) (ns.getD 1 0::qR ns (some (1+1)) (some (1+8))) [] .no .no .no .no (by have:=vY ns (some (1+1)) (some (1+8));simp only[Z5,Z4];omega)
 have lc:=vY ns (some ((1:Int)+1)) (some (1+8))
 have l7:(qR ns (some ((1:Int)+1)) (some (1+8))).length≤7:=CF ns
 have lb2:1+(qR ns (some ((1:Int)+1)) (some (1+8))).length≤1000000:=by omega
 refine⟨O,?_,d,by simp only[Z4]at l;omega⟩
 have it:bw (ah bK false (cK (aw (am bp (af false (aa 0) (af false (aa 1) ai))) cr)) (oX false (aa 0) (gf (ah bK false (aa 1) (pC (.int 1)))) (gf (ah bK false (aa 1) (pC (.int 8)))))) [.sh (.list (ns.map .int)),.sh (.int 1),.sh (av U),.ow [],.no,.no,.no,.no]=some ((ns.getD 1 0::qR ns (some (1+1)) (some (1+8))).map .int,[.sh (.list (ns.map .int)),.sh (.int 1),.sh (av U),.ow [],.no,.no,.no,.no]):=by
  have e0':bp [.list (ns.map .int),.int 1]=some (.sh (.int (ns.getD 1 0))):=e0
  simp! [e0',eM,lb2]
 have s1:aH 3 (cK cr) [.sh (.list (ns.map .int)),.sh (.int 1),.sh (av U),.no,.no,.no,.no,.no]=some ([.sh (.list (ns.map .int)),.sh (.int 1),.sh (av U),.ow [],.no,.no,.no,.no],.nx):=by
  unfold av
  simp! [if_true]
 rw[List.nil_append]at e
 have fo:eR (bw (ah bK false (cK (aw (am bp (af false (aa 0) (af false (aa 1) ai))) cr)) (oX false (aa 0) (gf (ah bK false (aa 1) (pC (.int 1)))) (gf (ah bK false (aa 1) (pC (.int 8))))))) eY c8 [.sh (.list (ns.map .int)),.sh (.int 1),.sh (av U),.ow [],.no,.no,.no,.no]=some ([.sh (.list (ns.map .int)),.sh (.int 1),.sh (av U),.ow (O.map av),b,a,v,o],.nx):=by
  unfold eR
  rw[it,Option.bind_some]
  exact e
 have lO:O.length≤24:=by simp only[Z4]at l;omega
 have lb3:O.length+1≤1000000:=by omega
 have p3:ah bK false (aa 3) (cK (aw (aa 2) cr)) [.sh (.list (ns.map .int)),.sh (.int 1),.sh (av U),.ow (O.map av),b,a,v,o]=some (.ow ((O++[U]).map av),[.sh (.list (ns.map .int)),.sh (.int 1),.sh (av U),.ow (O.map av),b,a,v,o]):=by
  simp only[CO,Nat.reduceAdd,Nat.reduceSub,Nat.reduceLT,Nat.reduceLeDiff,eM,lb3,List.map_append]
 have pl:=mX u (F:=O++[U]) (fun w hw=>by
  rcases Zah.mp hw with q |q
  ·exact⟨List.Pairwise.sublist (d w q).2 u.srt,fun x hx=>(d w q).2.subset hx⟩
  ·rw[Zaf.mp q];exact⟨u.srt,NhFam.le.refl U⟩) (by simp;omega)
 have c4:am cV (af false (ah bK false (aa 3) (cK (aw (aa 2) cr))) ai) [.sh (.list (ns.map .int)),.sh (.int 1),.sh (av U),.ow (O.map av),b,a,v,o]=some (.ow ((NhFam.aA (O++[U])).map av),[.sh (.list (ns.map .int)),.sh (.int 1),.sh (av U),.ow (O.map av),b,a,v,o]):=aE (ss:=[.ow ((O++[U]).map av)]) (LU p3) rfl pl
 have g:ft [.list (ns.map .int),.int 1,av U]=(hZ [.sh (.list (ns.map .int)),.sh (.int 1),.sh (av U),.no,.no,.no,.no,.no]).bind fun a=>match a.2 with |.rt r=>fc r |.nx=>some (.sh .none) |_=>none:=rfl
 have fl:=bR (NhFam.aA (O++[U]))
 rw[g,hZ,aF s1,aF fo]
 simp only[bq,c4,Z1,Z0,fc,iC,fl,if_true]
theorem xE(t:Txs W)(r:IsR W):bv [xL W]=none:=by
 obtain⟨w,W',e⟩:∃w W',W=w::W':=by
  have:=r.nil
  cases W with
  |nil=>exact absurd rfl this
  |cons w W'=>exact⟨w,W',rfl⟩
 have hw:w≠[]:=(r.set w (by rw[e];exact gE ..)).1
 have n1:=uU (L:=W.map av) (by rw[e];simp) (by rw[eM];have:=t.len;omega)
 have n2:=Fd t
 rw[oi t.az r,zz4 rfl,Bool.not_true]at n2
 have n3:=Fe (w:=w) (W:=W')
 rw[←e,zz3 hw]at n3
 have lo:Mo [xS W]=none:=kD (rs:=[xS W]) rfl rfl (jc t.gd (by rw[eM];have:=t.len;omega))
 refine zG ((Hr _).trans ?_)
 show pj _ _ [xS W]=none
 rw[jO (oO n1),FI (dY n1 rfl),jO (by rw[jO lo];exact oO n2),FI (dY n2 rfl)]
 exact oO n3
theorem sS(F:List (List Nat)):(NhFam.aA F).length≤F.length:=by
 have:=mW (NhFam.hJ F) []
 have e:(NhFam.hJ F).length=F.length:=(xP _ _).length_eq
 unfold NhFam.aA
 simp only[Z5]at this
 omega
abbrev Nv:cI:=aH 1 (bh [none] (bw (am aP (af false (aa 0) ai))) aT a_ aU)
abbrev Nw:cI:=aH 2 (am bu (af false (aa 0) ai))
theorem L8(t:Txs W):∃B,Nv [xS W,.no,.no]=some ([xS W,.ow B,.no],.nx)∧Nw [xS W,.ow B,.no]=some ([xS W,.ow B,tS (aG W.flatten)],.nx):=by
 have pl:=iU abc_uni t.wrt
 have pn:=kC abc_uni t.wrt
 have few:=sS (bY W)
 have ls:(bY W).length=W.length:=by unfold bY;rw[eM]
 have ll:=t.len
 have c1:am aP (af false (aa 0) ai) [xS W,.no,.no]=some (xO (NhFam.aA (bY W)),[xS W,.no,.no]):=aE (ss:=[xS W]) rfl rfl pl
 have p1:bh [none] (bw (am aP (af false (aa 0) ai))) aT a_ aU [xS W,.no,.no]=some (.ow ((NhFam.aA (bY W)).map bN),[xS W,.no,.no]):=e_ (Ia c1) (og _ _) (sG _) (by rw[eM];omega)
 have c2:am bu (af false (aa 0) ai) [xS W,.ow ((NhFam.aA (bY W)).map bN),.no]=some (tS (aG W.flatten),[xS W,.ow ((NhFam.aA (bY W)).map bN),.no]):=aE (ss:=[xS W]) rfl rfl pn
 exact⟨_,kA p1 (show 1 < 3 by decide),eL c2 (show 2 < 3 by decide)⟩
theorem Bf(V:List Nat)(h:V.length≤1000):c7 [av V]=if 10 < V.length then some ("TooMany":Str)else none:=by
 have l:=uR (E:=[tS V]) (f:=aa 0) rfl (show V.length≤1000000 by omega)
 have c:d5 (ah (jf (g5 .gt)) false (cb d8 (af false (aa 0) ai)) (pC (.int 10))) [tS V]=some (decide ((10:Int) < (V.length:Int)),[tS V]):=by
  generalize cb d8 (af false (aa 0) ai)=f at l
  simp! [l]
 split
 ·rename_i hv
  rw[zz4 (show(10:Int) < (V.length:Int) by omega)]at c
  exact mV (x:=(_,_)) rfl (sM c)
 ·rename_i hv
  rw[zz3 (show ¬(10:Int) < (V.length:Int) by omega)]at c
  exact zG (oO c)
theorem Hy(t:Txs W):(aG W.flatten).length≤26:=(abc_uni.small (oh abc_uni t.wrt)).len
theorem L9(t:Txs W):dG [xL W]=if 10 < (aG W.flatten).length then some ("TooMany":Str)else none:=by
 obtain⟨B,e1,e2⟩:=L8 t
 have ll:=t.len
 have g0:ce bO (af false (aa 0) ai) [xS W,.no,.no]=none:=kD (rs:=[xS W]) rfl rfl (lm t.gd (by rw[eM];omega))
 have k:=Bf (aG W.flatten) (by have:=Hy t;omega)
 have g:fI [xS W,.no,.no]=ce c7 (af false (aa 2) ai) [xS W,.ow B,tS (aG W.flatten)]:=by
  show pj _ (jQ Nv (jQ Nw _)) _=_
  rw[jO g0,FI e1,FI e2]
 split
 ·rename_i hv
  rw[if_pos hv]at k
  exact mV (x:=(_,_)) rfl (g.trans (lj (rs:=[tS (aG W.flatten)]) rfl rfl k))
 ·rename_i hv
  rw[if_neg hv]at k
  exact zG (g.trans (kD (rs:=[tS (aG W.flatten)]) rfl rfl k))
theorem om(t:Txs W)(r:IsR W):aN [xL W]=if 10 < (aG W.flatten).length then some ("TooMany":Str)else none:=by
 have g0:ce bv (af false (aa 0) ai) [xS W]=none:=kD (rs:=[xS W]) rfl rfl (xE t r)
 have s1:fA (am cq (af false (aa 0) ai)) [xS W]=some ([xS W],.nx):=uQ (aE (ss:=[xS W]) rfl rfl (Ff t r))
 have k:=L9 t
 have g:e8 [xS W]=ce dG (af false (aa 0) ai) [xS W]:=by
  show pj _ _ _=_
  rw[jO g0,FI s1]
 split
 ·rename_i hv
  rw[if_pos hv]at k
  exact mV (x:=(_,_)) rfl (g.trans (lj (rs:=[xS W]) rfl rfl k))
 ·rename_i hv
  rw[if_neg hv]at k
  exact zG (g.trans (kD (rs:=[xS W]) rfl rfl k))
theorem qK{n:Str}(h:bv [d]=some n):aN [d]=some n:=mV (x:=(n,[.sh d])) rfl (qG (lj (rs:=[.sh d]) rfl rfl h))
theorem xF{n:Str}(h:aN [d]=some n):fi [d]=some n:=mV (x:=(n,[.sh d,.no,.no])) rfl (qG (lj (rs:=[.sh d]) rfl rfl h))
theorem CG(h:R10 L)(k:800 < ((mt L).map sz).sum):fi [xL L]=some ("TooLong":Str):=by
 have g0:=om h.t h.r
 rw[if_neg (by have:=h.ten;omega)]at g0
 have c:am aI (af false (aa 0) ai) [xS L,.no,.no]=some (iS ((((mt L).map sz).sum:Nat):Int),[xS L,.no,.no]):=aE (ss:=[xS L]) rfl rfl (sN h)
 have b:d5 (ah (jf (g5 .gt)) false (am aI (af false (aa 0) ai)) (pC (.int 800))) [xS L,.no,.no]=some (true,[xS L,.no,.no]):=by
  generalize am aI (af false (aa 0) ai)=f at c
  generalize ((mt L).map sz).sum=s at c k
  have q:decide ((800:Int) < (s:Int))=true:=zz4 (by omega)
  simp! [c]
  exact congrArg (fun b=>some (b,_)) q
 refine mV (x:=(("TooLong":Str),[xS L,.no,.no])) rfl ?_
 show pj (ce aN (af false (aa 0) ai)) (qU (d5 (ah (jf (g5 .gt)) false (am aI (af false (aa 0) ai)) (pC (.int 800)))) (g7 "TooLong")) [xS L,.no,.no]=_
 rw[jO (kD (rs:=[xS L]) rfl rfl g0),sM b]
 rfl
inductive Sv:Sl→PyData→Prop
 |sh (d:PyData):Sv (.sh d) d
 |ow (ds:List PyData):Sv (.ow ds) (.list ds)
 |br (d:PyData):Sv (.br d) d
theorem Kh{s:Sl}(h:Sv s d):∃s',fc s=some s'∧Sv s' d:=by
 unfold fc
 split
 ·exact⟨s,rfl,h⟩
 ·cases h with
  |sh d=>exact⟨_,rfl,.br d⟩
  |ow ds=>exact⟨_,rfl,.br _⟩
  |br d=>
   refine⟨_,rfl,?_⟩
   split
   ·exact .sh d
   ·exact .br d
def CI(d:PyData):Prop:=bv [d]=some ("NoRule":Str)
structure Rl (L:List (List Nat)):Prop where
 t:Txs L
 r:IsR L
 few:L.length≤60
 sh:∀w∈L,w.length≤26
theorem zI(az':∀w∈W,∀a∈w,az a)(tl:∀w∈W,w.length≤30)(hl:W.length≤110)(n:W≠[])(h:¬IsR W):CI (xL W):=Hw ⟨az',tl,hl⟩ n h
section
variable {L:List (List Nat)} (R:Rl L)
include R
theorem Rl.pos:1≤L.length:=List.length_pos_iff.mpr R.r.nil
theorem Fr{w:List Nat}(z:Nat)(hw:∀a∈w,az a)(hl:w.length≤30)(h:¬IsR (L.take z++w::L.drop z)):CI (.list ((L.map av).take z++av w::(L.map av).drop z)):=by
 have e:(L.map av).take z++av w::(L.map av).drop z=(L.take z++w::L.drop z).map av:=by
  rw[List.map_append,gR,List.map_take,List.map_drop]
 rw[e]
 have m:∀v∈L.take z++w::L.drop z,v=w∨v∈L:=fun v hv=>by
  rcases Zah.mp hv with q |q
  ·exact .inr (List.mem_of_mem_take q)
  ·rcases Zag.mp q with q |q
   ·exact .inl q
   ·exact .inr (List.mem_of_mem_drop q)
 have few:=R.few
 refine zI (fun v hv=>?_) (fun v hv=>?_) ?_ (by simp) h
 ·rcases m v hv with q |q
  ·rw[q];exact hw
  ·exact R.t.az v q
 ·rcases m v hv with q |q
  ·rw[q];exact hl
  ·exact R.t.tl v q
 ·rw[pA,List.length_cons,List.length_take,List.length_drop]
  omega
theorem jH(z:Nat)(h:CP d):CI (.list ((L.map av).take z++d::(L.map av).drop z)):=by
 have few:=R.few
 refine Hv h (fun g hg=>R.t.gd g (List.mem_of_mem_take hg)) ?_
 rw[pA,List.length_cons,List.length_take,List.length_drop,eM]
 omega
theorem vB{w:List Nat}(z:Nat)(hw:∀a∈w,az a)(hl:w.length≤30)(h:¬(w≠[]∧NhFam.Srt w)):CI (.list ((L.map av).take z++av w::(L.map av).drop z)):=Fr R z hw hl fun i=>h (i.set w (by simp))
theorem CJ{w:List Nat}(z:Nat)(hw:w∈L):CI (.list ((L.map av).take z++av w::(L.map av).drop z)):=by
 refine Fr R z (R.t.az w hw) (R.t.tl w hw) fun i=>?_
 have o:=List.pairwise_append.mp i.ord
 rw[←List.take_append_drop z L]at hw
 rcases Zah.mp hw with q |q
 ·exact NhFam.fT w (o.2.2 w q w (gE ..)).2
 ·exact NhFam.fT w ((List.pairwise_cons.mp o.2.1).1 w q).2
theorem Fs{w:List Nat}(hw:w∈L):CI (.list (L.map av++[av (w++[122])])):=by
 have e:L.map av++[av (w++[122])]=(L++[w++[122]]).map av:=by rw[List.map_append];rfl
 rw[e]
 have few:=R.few
 have m:∀v∈L++[w++[122]],v=w++[122]∨v∈L:=fun v hv=>by
  rcases Zah.mp hv with q |q
  ·exact .inr q
  ·exact .inl (Zaf.mp q)
 refine zI (fun v hv a ha=>?_) (fun v hv=>?_) (by rw[pA];simp;omega) (by simp) fun i=>?_
 ·rcases m v hv with q |q
  ·rw[q]at ha
   rcases Zah.mp ha with q |q
   ·exact R.t.az w hw a q
   ·rw[Zaf.mp q];exact⟨by decide,by decide⟩
  ·exact R.t.az v q a ha
 ·rcases m v hv with q |q
  ·rw[q,pA]
   have:=R.sh w hw
   simp;omega
  ·exact R.t.tl v q
 ·exact((List.pairwise_append.mp i.ord).2.2 w hw _ (gE ..)).1 fun a ha=>Zah.mpr (.inl ha)
theorem zJ(h:1 < L.length):CI (.list (L.map av).reverse):=by
 rw[←List.map_reverse]
 have few:=R.few
 refine zI (fun v hv=>R.t.az v (List.mem_reverse.mp hv)) (fun v hv=>R.t.tl v (List.mem_reverse.mp hv)) (by rw[List.length_reverse];omega) (by intro z;exact R.r.nil (by simpa using z)) fun i=>?_
 have o:=List.pairwise_reverse.mp i.ord
 have p:=R.r.ord
 match L,h,o,p with
 |a::b::M,_,o,p=>
  exact NhFam.gU ((List.pairwise_cons.mp p).1 b (gE ..)).2 ((List.pairwise_cons.mp o).1 b (gE ..)).2
end
def Ki:List PyData:=[.none,.int 7,.bool true,.list [.str "a"],.str "",.str "A",.str "a b",.str "ba",.str "aab",.str "a1"]
def Kj:List PyData:=[.none,.str "",.str "ab",.tuple [],.tuple [.str "ab"],.dict [],.list [],.int 3]
theorem Kk(R:Rl L)(z:Nat):∀i,i < 10→∃d,Ki[i]? =some d∧CI (.list ((L.map av).take z++d::(L.map av).drop z))
 | 0,_=>⟨_,rfl,jH R z (by unfold CP;kernel_rfl)⟩
 | 1,_=>⟨_,rfl,jH R z (by unfold CP;kernel_rfl)⟩
 | 2,_=>⟨_,rfl,jH R z (by unfold CP;kernel_rfl)⟩
 | 3,_=>⟨_,rfl,jH R z (by unfold CP;kernel_rfl)⟩
 | 4,_=>⟨_,rfl,by
  rw[show PyData.str ""=av []from congrArg PyData.str (by decide+kernel)]
  exact vB R z (by simp) (by simp) (by simp)⟩
 | 5,_=>⟨_,rfl,jH R z (by unfold CP;kernel_rfl)⟩
 | 6,_=>⟨_,rfl,jH R z (by unfold CP;kernel_rfl)⟩
 | 7,_=>⟨_,rfl,by
  rw[show PyData.str "ba"=av [98,97]from congrArg PyData.str (by decide+kernel)]
  exact vB R z (by unfold az;decide) (by decide) (by unfold NhFam.Srt;decide)⟩
 | 8,_=>⟨_,rfl,by
  rw[show PyData.str "aab"=av [97,97,98]from congrArg PyData.str (by decide+kernel)]
  exact vB R z (by unfold az;decide) (by decide) (by unfold NhFam.Srt;decide)⟩
 | 9,_=>⟨_,rfl,jH R z (by unfold CP;kernel_rfl)⟩
theorem Kl:∀i,i < 8→∃d,Kj[i]? =some d∧CI d
 | 0,_=>⟨_,rfl,fm rfl⟩
 | 1,_=>⟨_,rfl,fm rfl⟩
 | 2,_=>⟨_,rfl,fm rfl⟩
 | 3,_=>⟨_,rfl,fm rfl⟩
 | 4,_=>⟨_,rfl,fm rfl⟩
 | 5,_=>⟨_,rfl,fm rfl⟩
 | 6,_=>⟨_,rfl,CC⟩
 | 7,_=>⟨_,rfl,fm rfl⟩
theorem oo{f g:cI}{r:Sl}(h:f E=some (E1,.rt r)):aL f g E=some (E1,.rt r):=by
 unfold aL
 rw[h]
 rfl
theorem zK(h:f E=some (.sh d,E)):bq f E=some (E,.rt (.sh d)):=by
 unfold bq
 rw[h]
 rfl
theorem zL(h:f E=some (.ow ds,E)):bq f E=some (E,.rt (.ow ds)):=by
 unfold bq
 rw[h]
 rfl
abbrev nE(L:List (List Nat))(c r:Int)(s a:Sl):List Sl:=[xS L,iS c,iS r,s,a]
theorem Ft{c r:Int}{z:Nat}{g:ba}(hg:g (nE L c r (.ow ds) (iS (z:Int)))=some (.sh d,nE L c r (.ow ds) (iS (z:Int))))(hl:ds.length < 1000000)(hz:z≤ds.length):aL (jn 3 (aa 4) g) (bq (aa 3)) (nE L c r (.ow ds) (iS (z:Int)))=some (nE L c r .no (iS (z:Int)),.rt (.ow (ds.take z++d::ds.drop z))):=by
 have v4:aa 4 (nE L c r (.ow ds) (iS (z:Int)))=some (iS (z:Int),nE L c r (.ow ds) (iS (z:Int))):=rfl
 have h3:(nE L c r (.ow ds) (iS (z:Int)))[3]? =some (.ow ds):=rfl
 have k:ds.length < 1000000∧(0:Int)≤(z:Int)∧(z:Int).toNat≤ds.length:=⟨hl,by omega,by omega⟩
 have i:jn 3 (aa 4) g (nE L c r (.ow ds) (iS (z:Int)))=some (nE L c r (.ow (ds.take z++d::ds.drop z)) (iS (z:Int)),.nx):=by
  unfold jn
  rw[h3]
  simp only[v4,Z0,hg,h3]
  rw[if_pos k]
  simp only[Int.toNat_natCast]
  rfl
 rw[aF i]
 rfl
theorem Fu{g:ba}{i:Nat}(hf:f E=some (.ow ds,E))(hg:g E=some (iS (i:Int),E))(h:ds[i]? =some d):ah m5 false f g E=some (.sh d,E):=by
 have a:=(gZ ds i).trans h
 simp only[ah,hf,hg,Z0,m5,PL.look,Sl.val,a,Z1,pH,Gh,iy]
theorem Km:cK (aw (pC .none) (aw (pC (.int 7)) (aw (pC (.bool true)) (aw (cK (aw (pC (.str "a")) cr)) (aw (pC (.str "")) (aw (pC (.str "A")) (aw (pC (.str "a b")) (aw (pC (.str "ba")) (aw (pC (.str "aab")) (aw (pC (.str "a1")) cr)))))))))) E=some (.ow Ki,E):=by
 simp! [Ki]
theorem Kn:cK (aw (pC .none) (aw (pC (.str "")) (aw (pC (.str "ab")) (aw (tE cr) (aw (tE (aw (pC (.str "ab")) cr)) (aw MY (aw (cK cr) (aw (pC (.int 3)) cr)))))))) E=some (.ow Kj,E):=by
 simp! [Kj]
 rfl
theorem kW(z:Int)(n:Nat)(h:0 < n):∃i:Nat,z % (n:Int)=(i:Int)∧i < n:=by
 have m0:=Int.emod_nonneg z (show(n:Int)≠0 by omega)
 have m1:=Int.emod_lt_of_pos z (show(0:Int) < n by omega)
 exact⟨(z % (n:Int)).toNat,by omega,by omega⟩
abbrev nG(L:List (List Nat))(c:Int)(z:Nat):List Sl:=nE L c (c / 5) (xO L) (iS (z:Int))
theorem qL(R:Rl L)(c:Int):∃s d,du [.list (L.map av),.int c]=some s∧Sv s d∧CI d:=by
 have few:=R.few
 have ps:=Rl.pos R
 have b:L.length≤1000000:=by omega
 have fl:=bR L
 obtain⟨z,hz,zl⟩:=kW (c / 5 / 10) (L.length+1) (by omega)
 obtain⟨j,hj,jl⟩:=kW (c / 5) L.length (by omega)
 obtain⟨i,hi,il⟩:=kW (c / 5) 10 (by omega)
 obtain⟨k,hk,kl⟩:=kW (c / 5) 8 (by omega)
 have s1:aH 2 (ah df false (aa 1) (pC (.int 5))) [.sh (.list (L.map av)),.sh (.int c),.no,.no,.no]=some (nE L c (c / 5) .no .no,.nx):=eL (i:=2) (kU (f:=aa 1) (g:=pC (.int 5)) (x:=c) (y:=5) rfl rfl (by decide)) (show 2 < 5 by decide)
 have s2:aH 3 (pM (aa 0)) (nE L c (c / 5) .no .no)=some (nE L c (c / 5) (.ow (L.map av)) .no,.nx):=by
  have q:pM (aa 0) (nE L c (c / 5) .no .no)=some (.ow (L.map av),nE L c (c / 5) .no .no):=by
   simp! [pM,eM,b,fl]
  exact kA q (show 3 < 5 by decide)
 have ln:∀a,cb d8 (af false (aa 0) ai) (nE L c (c / 5) (.ow (L.map av)) a)=some (.sh (.int (L.length:Int)),nE L c (c / 5) (.ow (L.map av)) a):=fun a=>by
  simp! [eM,b]
 have s3:aH 4 (ah cJ false (ah df false (aa 2) (pC (.int 10))) (ah bK false (cb d8 (af false (aa 0) ai)) (pC (.int 1)))) (nE L c (c / 5) (.ow (L.map av)) .no)=some (nG L c z,.nx):=by
  have q:=iw (kU (E:=nE L c (c / 5) (.ow (L.map av)) .no) (f:=aa 2) (g:=pC (.int 10)) (x:=c / 5) (y:=10) rfl rfl (by decide)) (jb (f:=pC (.int 1)) (y:=1) (ln .no) rfl) (by omega)
  rw[show((L.length:Int)+1)=((L.length+1:Nat):Int) by omega,hz]at q
  exact eL (i:=4) q (show 4 < 5 by decide)
 have md:∀y:Int,d5 (ah kY false (ah cJ false (aa 1) (pC (.int 5))) (pC (.int y))) (nG L c z)=some (decide (c % 5=y),nG L c z):=fun y=>wZ (iw (f:=aa 1) (g:=pC (.int 5)) (x:=c) (y:=5) rfl rfl (by decide)) rfl
 have jx:ah m5 false (aa 0) (ah cJ false (aa 2) (cb d8 (af false (aa 0) ai))) (nG L c z)=some (.sh (av L[j]),nG L c z):=by
  have q:=iw (E:=nG L c z) (f:=aa 2) (x:=c / 5) rfl (ln _) (by omega)
  rw[hj]at q
  have at1:atI (L.map av) (j:Int)=some (av L[j]):=by
   rw[gZ,zP,vH jl]
   rfl
  generalize ah cJ false (aa 2) (cb d8 (af false (aa 0) ai))=f at q
  simp! [q,at1]
 have hw:L[j]∈L:=List.getElem_mem jl
 have g:du [.list (L.map av),.int c]=(dR [.sh (.list (L.map av)),.sh (.int c),.no,.no,.no]).bind fun a=>match a.2 with |.rt r=>fc r |.nx=>some (.sh .none) |_=>none:=rfl
 have key:∃E' s d,dR [.sh (.list (L.map av)),.sh (.int c),.no,.no,.no]=some (E',.rt s)∧Sv s d∧CI d:=by
  rw[dR,aF s1,aF s2,aF s3]
  generalize L[j]=w at jx hw
  by_cases c0:c % 5=0
  ·have t:=md 0
   rw[zz4 c0]at t
   obtain⟨d,ed,nd⟩:=Kk R z i il
   have q:=iw (E:=nG L c z) (f:=aa 2) (g:=pC (.int 10)) (x:=c / 5) (y:=10) rfl rfl (by decide)
   rw[show(10:Int)=((10:Nat):Int)from rfl,hi]at q
   have r:=Ft (Fu Km q ed) (by rw[eM];omega) (by rw[eM];omega)
   exact⟨_,_,_,oo (fV t r),.ow _,nd⟩
  have t0:=md 0
  rw[zz3 c0]at t0
  rw[aF (dY t0 rfl)]
  by_cases c1:c % 5=1
  ·have t:=md 1
   rw[zz4 c1]at t
   obtain⟨d,ed,nd⟩:=Kl k kl
   have q:=iw (E:=nG L c z) (f:=aa 2) (g:=pC (.int 8)) (x:=c / 5) (y:=8) rfl rfl (by decide)
   rw[show(8:Int)=((8:Nat):Int)from rfl,hk]at q
   have r:=Fu Kn q ed
   exact⟨_,_,_,oo (fV t (zK r)),.sh d,nd⟩
  have t1:=md 1
  rw[zz3 c1]at t1
  rw[aF (dY t1 rfl)]
  have gt:d5 (ah (jf (g5 .gt)) false (cb d8 (af false (aa 0) ai)) (pC (.int 1))) (nG L c z)=some (decide ((1:Int) < (L.length:Int)),nG L c z):=by
   have l:=ln (.sh (.int (z:Int)))
   generalize cb d8 (af false (aa 0) ai)=f at l
   simp! [l]
  have an:vS (d5 (ah kY false (ah cJ false (aa 1) (pC (.int 5))) (pC (.int 2)))) (d5 (ah (jf (g5 .gt)) false (cb d8 (af false (aa 0) ai)) (pC (.int 1)))) (nG L c z)=some (decide (c % 5=2)&&decide ((1:Int) < (L.length:Int)),nG L c z):=by
   unfold vS
   rw[md 2,Option.bind_some]
   cases decide (c % 5=2)with
   |true=>simpa using gt
   |false=>rfl
  by_cases c2:(decide (c % 5=2)&&decide ((1:Int) < (L.length:Int)))=true
  ·rw[c2]at an
   rw[rC]at c2
   have l2:=zz5 c2.2
   exact⟨_,_,_,oo (fV an rfl),.ow _,zJ R (by omega)⟩
  rw[Bool.eq_false_iff.mpr c2]at an
  rw[aF (dY an rfl)]
  by_cases c3:c % 5=3
  ·have t:=md 3
   rw[zz4 c3]at t
   have lw:=R.sh w hw
   have az1:(⟨w.toArray⟩:Str)++(Str.ofString "z")=⟨(w++[122]).toArray⟩:=by
    rw[show Str.ofString "z"=⟨[122].toArray⟩ by decide+kernel,EQ]
   have ad:ah bK false (ah m5 false (aa 0) (ah cJ false (aa 2) (cb d8 (af false (aa 0) ai)))) (pC (.str "z")) (nG L c z)=some (.sh (av (w++[122])),nG L c z):=by
    have lz:(⟨w.toArray⟩:Str).length+(Str.ofString "z").length≤1000000:=by
     rw[kz,show(Str.ofString "z").length=1 by decide+kernel]
     omega
    unfold av at jx ⊢
    generalize ah m5 false (aa 0) (ah cJ false (aa 2) (cb d8 (af false (aa 0) ai)))=f at jx
    simp! [jx,lz,az1]
   have l1:L.length+1≤1000000:=by omega
   have r:ah bK false (aa 3) (cK (aw (ah bK false (ah m5 false (aa 0) (ah cJ false (aa 2) (cb d8 (af false (aa 0) ai)))) (pC (.str "z"))) cr)) (nG L c z)=some (.ow (L.map av++[av (w++[122])]),nG L c z):=by
    generalize ah bK false (ah m5 false (aa 0) (ah cJ false (aa 2) (cb d8 (af false (aa 0) ai)))) (pC (.str "z"))=f at ad
    simp only[CO,Nat.reduceAdd,Nat.reduceSub,Nat.reduceLT,Nat.reduceLeDiff,ad,eM,l1]
   exact⟨_,_,_,oo (fV t (zL r)),.ow _,Fs R hw⟩
  have t3:=md 3
  rw[zz3 c3]at t3
  rw[aF (dY t3 rfl)]
  exact⟨_,_,_,Ft jx (by rw[eM];omega) (by rw[eM];omega),.ow _,CJ R z hw⟩
 obtain⟨E',s,d,e,v,t⟩:=key
 obtain⟨s',o,v'⟩:=Kh v
 exact⟨s',d,by rw[g,e];exact o,v',t⟩
instance (v w:List Nat):Decidable (NhFam.jd v w):=inferInstanceAs (Decidable (_=true))
instance (a:Nat):Decidable (az a):=inferInstanceAs (Decidable (_∧_))
instance (w:List Nat):Decidable (NhFam.Srt w):=inferInstanceAs (Decidable (List.Pairwise _ w))
def KE(W:List (List Nat)):Bool:=decide (∀w∈W,(∀a∈w,az a)∧w.length≤30∧w≠[]∧NhFam.Srt w)&&decide (W.length≤110)&&decide (W≠[])&&decide (W.Pairwise fun v w=>¬NhFam.le v w∧NhFam.jd v w)
theorem Ie(h:KE W=true):Txs W∧IsR W:=by
 simp only[KE,rC,decide_eq_true_eq]at h
 obtain⟨⟨⟨h1,h2⟩,h3⟩,h4⟩:=h
 exact⟨⟨fun w hw=>(h1 w hw).1,fun w hw=>(h1 w hw).2.1,h2⟩,⟨h3,fun w hw=>(h1 w hw).2.2,h4⟩⟩
def mZ(i:Nat):List Nat:=(List.range 10).map fun k=>97+(i+5*k) % 26
def vC:List Nat→List (List Nat)
 |[a0,a1,a2,a3,a4,a5,a6,a7,a8,a9]=>[aG [a0,a1],aG [a2,a3],aG [a4,a5],aG [a6,a7],aG [a8,a9]]
 |_=>[]
def L_(w:List Nat):List (List Nat)→List (List Nat)
 |[]=>[w]
 |v::L=>if NhFam.jd w v then w::v::L else v::L_ w L
def qM(i:Nat):List (List Nat):=(vC (mZ i)).foldr L_ []
def Ma(i:Nat):Bool:=KE (qM i)&&decide ((aG (qM i).flatten).length≤10)&&decide ((qM i).Pairwise fun p q=>∀x∈p,x∉q)&&decide (((uX (qM i)).map aG).Nodup)&&decide ((((uX (qM i)).map aG).map sz).sum=896)&&decide (∀w∈vC (mZ i),w∈qM i)&&decide (∀w∈qM i,w∈vC (mZ i))&&decide (mZ i).Nodup&&decide (∀a∈mZ i,az a)
theorem Hz:∀i,i < 26→Ma i=true:=by decide+kernel
theorem zM{F:List (List Nat)}(hF:∀v∈F,NhFam.Sub U v)(a:∀w∈F,w∈W)(b:∀w∈W,w∈F)(t:Txs W)(r:IsR W):NhFam.aA F=W:=by
 have k:=oi t.az r
 rw[uT t.az fun w hw=>(r.set w hw).2]at k
 have u:=(NhFam.cS hF).uniq (NhFam.cS (F:=W) fun v hv=>hF v (b v hv)) fun w _=>⟨fun⟨v,hv,l⟩=>⟨v,a v hv,l⟩,fun⟨v,hv,l⟩=>⟨v,b v hv,l⟩⟩
 rw[u,k]
theorem Mb(c k:Int)(m:fN 5 k=true):c9 [iS k,aS,iS c]=some (.sh (gn (97+((c % 26+5*k) % 26).toNat)),[iS k,aS,iS c]):=by
 have d:ou 26=true:=by decide
 simp! [c9,Int.reduceLT,m,Lz,yL,gn]
theorem Ig(c:Int)(i:Nat)(hi:c % 26=(i:Int)):∀(n lo:Nat) (x:Sl),cB dS a_ c9 (iI lo n) [x,aS,iS c]=some (((List.range' lo n).map fun k=>97+(i+5*k) % 26).map gn)
 | 0,lo,x=>rfl
 |n+1,lo,x=>by
  have e:=Ig c i hi n (lo+1) (iS lo)
  have s:=Mb c lo (mE (by decide) (by decide))
  rw[hi,show((i:Int)+5*(lo:Int)) % 26=(((i+5*lo) % 26:Nat):Int) by omega,Int.toNat_natCast]at s
  have t:dS (.int lo) [x,aS,iS c]=some [iS lo,aS,iS c]:=rfl
  rw[show((lo+1:Nat):Int)=(lo:Int)+1 by omega]at e
  rw[iY,List.range'_succ,gR,gR]
  exact e9 t s e
theorem HB{a b:Nat}(hf:f E=some (.ow [gn a,gn b],E))(n:a≠b)(ha:az a)(hb:az b):iD "" (fZ f) E=some (tS (aG [a,b]),E):=by
 have nd:[a,b].Nodup:=by simp[n]
 have az':∀y∈[a,b],az y:=fun y hy=>by
  rcases Zag.mp hy with q |q
  ·rw[q];exact ha
  ·rw[Zaf.mp q];exact hb
 exact u_ (sJ (w:=[a,b]) hf (by simp) nd az') (by have:=kB nd az';simp at this;omega)
theorem Ko{a0 a1 a2 a3 a4 a5 a6 a7 a8 a9:Nat}(nd:[a0,a1,a2,a3,a4,a5,a6,a7,a8,a9].Nodup)(z:∀a∈[a0,a1,a2,a3,a4,a5,a6,a7,a8,a9],az a):cB dU a_ c_ (iI 0 5) [.no,uS [a0,a1,a2,a3,a4,a5,a6,a7,a8,a9]]=some ((vC [a0,a1,a2,a3,a4,a5,a6,a7,a8,a9]).map av):=by
 have e:∀(k:Int) (a b:Nat),oX false (aa 1) (gf (ah iH false (pC (.int 2)) (aa 0))) (gf (ah bK false (ah iH false (pC (.int 2)) (aa 0)) (pC (.int 2)))) [iS k,uS [a0,a1,a2,a3,a4,a5,a6,a7,a8,a9]]=some (.ow [gn a,gn b],[iS k,uS [a0,a1,a2,a3,a4,a5,a6,a7,a8,a9]])→a≠b→a∈[a0,a1,a2,a3,a4,a5,a6,a7,a8,a9]→b∈[a0,a1,a2,a3,a4,a5,a6,a7,a8,a9]→c_ [iS k,uS [a0,a1,a2,a3,a4,a5,a6,a7,a8,a9]]=some (tS (aG [a,b]),[iS k,uS [a0,a1,a2,a3,a4,a5,a6,a7,a8,a9]]):=fun k a b h n ha hb=>HB h n (z a ha) (z b hb)
 simp only[List.nodup_cons,Zag,not_or]at nd
 have r:iI 0 5=[.int 0,.int 1,.int 2,.int 3,.int 4]:=rfl
 rw[r]
 refine e9 rfl (e 0 a0 a1 rfl nd.1.1 (by simp) (by simp)) ?_
 refine e9 rfl (e 1 a2 a3 rfl nd.2.2.1.1 (by simp) (by simp)) ?_
 refine e9 rfl (e 2 a4 a5 rfl nd.2.2.2.2.1.1 (by simp) (by simp)) ?_
 refine e9 rfl (e 3 a6 a7 rfl nd.2.2.2.2.2.2.1.1 (by simp) (by simp)) ?_
 exact e9 rfl (e 4 a8 a9 rfl nd.2.2.2.2.2.2.2.2.1.1 (by simp) (by simp)) rfl
structure Lng (L:List (List Nat)):Prop where
 r:R10 L
 s:((mt L).map sz).sum=896
theorem xG(c:Int):∃L,fv [.int c]=some (xO L)∧Lng L:=by
 obtain⟨i,hi,il⟩:=kW c 26 (by decide)
 have b:=Hz i il
 simp only[Ma,rC,decide_eq_true_eq]at b
 obtain⟨⟨⟨⟨⟨⟨⟨⟨b1,b2⟩,b3⟩,b4⟩,b5⟩,b6⟩,b7⟩,b8⟩,b9⟩:=b
 obtain⟨t,r⟩:=Ie b1
 have R:R10 (qM i):=⟨t,r,b2⟩
 have p1:=Ig c i hi 10 0 .no
 rw[show List.range' 0 10=List.range 10 from rfl]at p1
 have p1:cB dS a_ c9 (iI 0 10) [.no,aS,iS c]=some ((mZ i).map gn):=p1
 have w10:∃a0 a1 a2 a3 a4 a5 a6 a7 a8 a9,mZ i=[a0,a1,a2,a3,a4,a5,a6,a7,a8,a9]:=⟨_,_,_,_,_,_,_,_,_,_,rfl⟩
 have hS:∀v∈vC (mZ i),NhFam.Sub abc v:=fun v hv=>⟨(r.set v (b6 v hv)).2,Fc (t.az v (b6 v hv))⟩
 have eq:=zM hS b6 b7 t r
 have p2:cB dU a_ c_ (iI 0 5) [.no,uS (mZ i)]=some ((vC (mZ i)).map av):=by
  obtain⟨a0,a1,a2,a3,a4,a5,a6,a7,a8,a9,e⟩:=w10
  rw[e]at b8 b9 ⊢
  exact Ko b8 b9
 have l5:(vC (mZ i)).length=5:=by
  obtain⟨a0,a1,a2,a3,a4,a5,a6,a7,a8,a9,e⟩:=w10
  rw[e]
  rfl
 have l10:(mZ i).length=10:=by simp[mZ]
 refine⟨qM i,?_,R,(J8 R b3 b4).trans b5⟩
 generalize mZ i=w at p1 p2 hS eq l5 l10
 have pl:=mX abc_uni hS (by omega)
 rw[eq]at pl
 have g:fv [.int c]=(ig [iS c,.no,.no]).bind fun a=>match a.2 with |.rt r=>fc r |.nx=>some (.sh .none) |_=>none:=rfl
 have s1:aH 1 (pC (.str "abcdefghijklmnopqrstuvwxyz")) [iS c,.no,.no]=some ([iS c,aS,.no],.nx):=rfl
 have q1:bh [none,some 1,some 0] (d9 (af false (pC (.int 10)) ai)) dS a_ c9 [iS c,aS,.no]=some (uO w,[iS c,aS,.no]):=e_ (qF (z:=10) rfl rfl (by decide)) p1 (kq _) (by rw[eM];omega)
 have s2:=kA (i:=2) q1 (show 2 < 3 by decide)
 have q2:bh [none,some 2] (d9 (af false (pC (.int 5)) ai)) dU a_ c_ [iS c,aS,uO w]=some (xO (vC w),[iS c,aS,uO w]):=e_ (qF (z:=5) rfl rfl (by decide)) p2 (bR _) (by rw[eM];omega)
 have c3:am cV (af false (bh [none,some 2] (d9 (af false (pC (.int 5)) ai)) dU a_ c_) ai) [iS c,aS,uO w]=some (xO (qM i),[iS c,aS,uO w]):=aE (ss:=[xO (vC w)]) (LU q2) rfl pl
 have fl:=bR (qM i)
 rw[g,ig,aF s1,aF s2]
 simp only[List.set,bq,c3,Z1,Z0,fc,iC,fl,if_true]
abbrev rTab:List (Str×(List PyData→Option Str)):=[("pieces_needed",aN),("cord_of",fi),("rule_of",fj)]
abbrev pTab:List (Str×(List PyData→Option Sl)):=[("pieces_needed",aI)]
theorem Fv:rTab.lookup ("pieces_needed":Str)=some aN:=by kernel_rfl
theorem Fw:rTab.lookup ("cord_of":Str)=some fi:=by kernel_rfl
theorem Fx:rTab.lookup ("rule_of":Str)=some fj:=by kernel_rfl
theorem Kp:pTab.lookup ("pieces_needed":Str)=some aI:=by kernel_rfl
theorem Bg(f:Str)(d:PyData):aB [gk f,d]=((aL (wx ["NoNails","NoRule","TooMany","TooLong"] 3 (jm 0 rTab (af false (aa 1) ai)) (aH 2 (lI 0 pTab (af false (aa 1) ai))) (bq (am bQ (af false (aa 3) ai)))) (bq (aa 2))) [.sh (gk f),.sh d,.sh (.str ""),.no]).bind fun a=>match a.2 with |.rt r=>fc r |.nx=>some (.sh .none) |_=>none:=rfl
theorem gr{f:Str} {r:List PyData→Option Str} (hl:rTab.lookup f=some r)  {n w:Str} (h:r [d]=some n) (ho:n∈(["NoNails","NoRule","TooMany","TooLong"]:List Str)) (hw:bQ [qW n]=some (.sh (.str w))):aB [gk f,d]=some (.sh (.str w)):=by
 have e:jm 0 rTab (af false (aa 1) ai) [.sh (gk f),.sh d,.sh (.str ""),.no]=some (n,[.sh (gk f),.sh d,.sh (.str ""),.no]):=by
  show(match rTab.lookup f with |some r=>ce r (af false (aa 1) ai) [.sh (gk f),.sh d,.sh (.str ""),.no] |none=>none)=_
  rw[hl]
  exact lj (rs:=[.sh d]) rfl rfl h
 have c:am bQ (af false (aa 3) ai) [.sh (gk f),.sh d,.sh (.str ""),.sh (qW n)]=some (.sh (.str w),[.sh (gk f),.sh d,.sh (.str ""),.sh (qW n)]):=aE (ss:=[.sh (qW n)]) rfl rfl hw
 have t:wx ["NoNails","NoRule","TooMany","TooLong"] 3 (jm 0 rTab (af false (aa 1) ai)) (aH 2 (lI 0 pTab (af false (aa 1) ai))) (bq (am bQ (af false (aa 3) ai))) [.sh (gk f),.sh d,.sh (.str ""),.no]=some ([.sh (gk f),.sh d,.sh (.str ""),.sh (qW n)],.rt (.sh (.str w))):=by
  unfold wx
  rw[e]
  simp only
  rw[if_pos ⟨ho,by simp⟩]
  simp only[List.set,zK c]
 rw[Bg,oo t]
 rfl
theorem Fy{z:Int}(h0:aN [d]=none)(h:aI [d]=some (iS z)):aB [gk "pieces_needed",d]=some (iS z):=by
 have e:jm 0 rTab (af false (aa 1) ai) [.sh (gk "pieces_needed"),.sh d,.sh (.str ""),.no]=none:=by
  show(match rTab.lookup ("pieces_needed":Str)with |some r=>ce r (af false (aa 1) ai) [.sh (gk "pieces_needed"),.sh d,.sh (.str ""),.no] |none=>none)=_
  rw[Fv]
  exact kD (rs:=[.sh d]) rfl rfl h0
 have c:lI 0 pTab (af false (aa 1) ai) [.sh (gk "pieces_needed"),.sh d,.sh (.str ""),.no]=some (iS z,[.sh (gk "pieces_needed"),.sh d,.sh (.str ""),.no]):=by
  show(match pTab.lookup ("pieces_needed":Str)with |some r=>am r (af false (aa 1) ai) [.sh (gk "pieces_needed"),.sh d,.sh (.str ""),.no] |none=>none)=_
  rw[Kp]
  exact aE (ss:=[.sh d]) rfl rfl h
 have t:wx ["NoNails","NoRule","TooMany","TooLong"] 3 (jm 0 rTab (af false (aa 1) ai)) (aH 2 (lI 0 pTab (af false (aa 1) ai))) (bq (am bQ (af false (aa 3) ai))) [.sh (gk "pieces_needed"),.sh d,.sh (.str ""),.no]=some ([.sh (gk "pieces_needed"),.sh d,iS z,.no],.nx):=by
  unfold wx
  rw[e]
  exact eL c (show 2 < 4 by decide)
 rw[Bg,aF t]
 rfl
theorem vD:bQ [qW "NoRule"]=some (.sh (.str "rule")):=by kernel_rfl
theorem zN:bQ [qW "TooMany"]=some (.sh (.str "many")):=by kernel_rfl
theorem Kq:bQ [qW "TooLong"]=some (.sh (.str "long")):=by kernel_rfl
theorem HC:("NoRule":Str)∈(["NoNails","NoRule","TooMany","TooLong"]:List Str):=by simp
theorem Kr:("TooMany":Str)∈(["NoNails","NoRule","TooMany","TooLong"]:List Str):=by simp
theorem Nf:("TooLong":Str)∈(["NoNails","NoRule","TooMany","TooLong"]:List Str):=by simp
theorem CK(h:CI d):aB [gk "pieces_needed",d]=some (.sh (.str "rule"))∧aB [gk "cord_of",d]=some (.sh (.str "rule")):=⟨gr Fv (qK h) HC vD,gr Fw (xF (qK h)) HC vD⟩
def Mp(d:PyData):Prop:=aN [d]=some ("TooMany":Str)
theorem CL(h:Mp d):aB [gk "pieces_needed",d]=some (.sh (.str "many"))∧aB [gk "cord_of",d]=some (.sh (.str "many")):=⟨gr Fv h Kr zN,gr Fw (xF h) Kr zN⟩
theorem CM(h:Lng L):aB [gk "pieces_needed",xL L]=some (iS 896)∧aB [gk "cord_of",xL L]=some (.sh (.str "long")):=by
 have g0:=om h.r.t h.r.r
 rw[if_neg (by have:=h.r.ten;omega)]at g0
 have g:=sN h.r
 have s:=h.s
 refine⟨?_,gr Fw (CG h.r (by omega)) Nf Kq⟩
 rw[s]at g
 exact Fy g0 g
def ix:List PyData:=[.tuple [.str "a",.int 1],.tuple [.str "b",.int 2],.tuple [.str "c",.int 3],.tuple [.str "d",.int 1],.tuple [.str "e",.int 2],.tuple [.str "f",.int 3],.tuple [.str "g",.int 1],.tuple [.str "h",.int 2],.tuple [.str "i",.int 3],.tuple [.str "j",.int 1],.tuple [.str "k",.int 2]]
def crdB:List PyData:=[.tuple [.str "k",.int (-2)],.tuple [.str "j",.int (-1)],.tuple [.str "i",.int (-3)],.tuple [.str "h",.int (-2)],.tuple [.str "g",.int (-1)],.tuple [.str "f",.int (-3)],.tuple [.str "e",.int (-2)],.tuple [.str "d",.int (-1)],.tuple [.str "c",.int (-3)],.tuple [.str "b",.int (-2)],.tuple [.str "a",.int (-1)]]
theorem Ks:bZ [.list ix]=some (bS false):=by kernel_rfl
theorem Kt:bZ [.list (ix++crdB)]=some (bS true):=by kernel_rfl
theorem Ku:bZ [.list []]=some (bS true):=by kernel_rfl
theorem Bh(h:bZ [d]=some (bS true)):fj [d]=some ("NoRule":Str):=by
 have c:dZ (am bZ (af false (aa 0) ai)) [.sh d]=some (true,[.sh d]):=by
  unfold dZ
  rw[aE (ss:=[.sh d]) rfl rfl h]
  rfl
 exact mV (x:=(_,[.sh d])) rfl (qG (sM c))
def wU:List Nat:=List.range' 97 11
theorem Mc:eD [.list ix]=some (.sh (av (aG wU))):=by
 have k:cB iM a_ iN ix [.no,.no]=some (wU.map gn):=by kernel_rfl
 have z:∀y∈wU,y∈List.range' 97 26:=by decide
 have d:=qy z
 have d2:(wU.map fJ).length < 4000∧(j6 (wU.map fJ)).length < 64:=⟨by decide,zz8 (AM z) (by decide)⟩
 have l:=uP (aG wU)
 have l2:=sE wU
 have l3:(wU.map gn).length≤1000000:=by rw[eM];decide
 simp! [eD,jw,bh,jh,Ao,k,kq,l3,j7,qA,d2,and_self,d,rT,qB,l,l2,qC,av]
theorem HE:fj [.list ix]=some ("TooMany":Str):=by
 have c:dZ (am bZ (af false (aa 0) ai)) [.sh (.list ix)]=some (false,[.sh (.list ix)]):=by
  unfold dZ
  rw[aE (ss:=[.sh (.list ix)]) rfl rfl Ks]
  rfl
 have m:=Bf (aG wU) (by decide+kernel)
 rw[if_pos (by decide+kernel)]at m
 have n1:am eD (af false (aa 0) ai) [.sh (.list ix),.no]=some (tS (aG wU),[.sh (.list ix),.no]):=aE (ss:=[.sh (.list ix)]) rfl rfl Mc
 have f:dH [.list ix]=some ("TooMany":Str):=by
  refine mV (x:=(("TooMany":Str),[.sh (.list ix),tS (aG wU)])) rfl ?_
  show jQ (aH 1 (am eD (af false (aa 0) ai))) (ce c7 (af false (aa 1) ai)) [.sh (.list ix),.no]=_
  rw[FI (eL n1 (show 1 < 2 by decide))]
  exact lj (rs:=[tS (aG wU)]) rfl rfl m
 refine mV (x:=(("TooMany":Str),[.sh (.list ix)])) rfl ?_
 show pj (qU (dZ (am bZ (af false (aa 0) ai))) (g7 "NoRule")) (jQ (bT (dZ (am bZ (af false (aa 0) ai))) cL aW) (ce dH (af false (aa 0) ai))) [.sh (.list ix)]=_
 rw[jO (oO c),FI (dY c rfl)]
 exact lj (rs:=[.sh (.list ix)]) rfl rfl f
theorem Ng:∀i,i < 16→Txt.slice (Str.ofString "abcdefghijklmnopqrstuvwxyz") none (some ((11+i:Nat):Int))=⟨(abc.take (11+i)).toArray⟩:=by decide+kernel
def KG(w:List Nat):List (List Nat):=w.map fun a=>[a]
theorem HF:∀i,i < 16→(KE [abc.take (11+i)]&&decide (10 < (aG [abc.take (11+i)].flatten).length)&&(KE (KG (abc.take (11+i)))&&decide (10 < (aG (KG (abc.take (11+i))).flatten).length)))=true:=by decide+kernel
theorem Fz(h:(KE W&&decide (10 < (aG W.flatten).length))=true):Mp (xL W):=by
 rw[rC]at h
 obtain⟨t,r⟩:=Ie h.1
 have p:=om t r
 rw[if_pos (zz5 h.2)]at p
 exact p
theorem Ih:∀(w:List Nat) (x:Sl),cB iO a_ iP (w.map gn) [x]=some ((KG w).map av)
 |[],x=>rfl
 |a::w,x=>e9 (E1:=[.sh (gn a)]) rfl rfl (Ih w _)
theorem xH(c:Int):∃W:List (List Nat),fu [.int c]=some (.ow (W.map av))∧Mp (.list (W.map av)):=by
 obtain⟨i,hi,il⟩:=kW c 16 (by decide)
 have b:=HF i il
 rw[rC]at b
 have sl:=Ng i il
 have e11:(11:Int)+c % 16=((11+i:Nat):Int):=by rw[show(16:Int)=((16:Nat):Int)from rfl,hi];omega
 have ll:(abc.take (11+i)).length≤26:=by rw[List.length_take];exact Nat.min_le_right _ _
 generalize abc.take (11+i)=w at b sl ll
 have g:fu [.int c]=(ie [.sh (.int c),.no,.no]).bind fun a=>match a.2 with |.rt r=>fc r |.nx=>some (.sh .none) |_=>none:=rfl
 have s1:aH 1 (pC (.str "abcdefghijklmnopqrstuvwxyz")) [.sh (.int c),.no,.no]=some ([.sh (.int c),aS,.no],.nx):=rfl
 have s2:=eL (i:=2) (jb (E:=[.sh (.int c),aS,.no]) (g:=pC (.int 11)) (x:=11) rfl (iw (f:=aa 0) (g:=pC (.int 16)) (x:=c) (y:=16) rfl rfl (by decide))) (show 2 < 3 by decide)
 rw[e11]at s2
 have cu:oX false (aa 1) pL (gf (aa 2)) [.sh (.int c),aS,.sh (.int ((11+i:Nat):Int))]=some (.sh (av w),[.sh (.int c),aS,.sh (.int ((11+i:Nat):Int))]):=by
  unfold av
  simp! [yL,sl]
 have md:=wZ (E:=[.sh (.int c),aS,.sh (.int ((11+i:Nat):Int))]) (iw (kU (f:=aa 0) (g:=pC (.int 16)) (x:=c) (y:=16) rfl rfl (by decide)) (g:=pC (.int 2)) (y:=2) rfl (by decide)) (g:=pC (.int 0)) (y:=0) rfl
 rw[g,ie,aF s1,aF s2]
 simp only[List.set]
 by_cases h:c / 16 % 2=0
 ·rw[zz4 h]at md
  refine⟨[w],?_,Fz b.1⟩
  have r:cK (aw (oX false (aa 1) pL (gf (aa 2))) cr) [.sh (.int c),aS,.sh (.int ((11+i:Nat):Int))]=some (.ow ([w].map av),[.sh (.int c),aS,.sh (.int ((11+i:Nat):Int))]):=by
   generalize oX false (aa 1) pL (gf (aa 2))=f at cu
   simp! [cu]
  rw[oo (fV md (zL r))]
  rfl
 ·rw[zz3 h]at md
  refine⟨KG w,?_,Fz b.2⟩
  have it:bw (oX false (aa 1) pL (gf (aa 2))) [.sh (.int c),aS,.sh (.int ((11+i:Nat):Int))]=some (w.map gn,[.sh (.int c),aS,.sh (.int ((11+i:Nat):Int))]):=by
   unfold bw
   rw[cu]
   simp! [av,pv]
  have r:=e_ (js:=[none]) it (Ih w .no) (bR _) (by unfold KG;rw[eM,eM];omega)
  have fl:=bR (KG w)
  rw[aF (dY md rfl),zL r]
  simp only[Z0,fc,iC,fl,if_true]
theorem HG:look E (.sh d)=some d:=rfl
inductive Sw:Sl→PyData→Prop
 |sh (d:PyData):Sw (.sh d) d
 |ow (ds:List PyData):Sw (.ow ds) (.list ds)
theorem Kv{i:Nat}{s:Sl}(h:E[i]? =some s)(v:Sw s d):∃x,aa i E=some (x,E)∧look E x=some d:=by
 cases v with
 |sh d=>exact⟨.sh d,by simp only[aa,h,Z0],rfl⟩
 |ow ds=>exact⟨.al i,by simp only[aa,h,Z0],by simp only[look,h];rfl⟩
theorem m4{i:Nat}{s:Sl}{n:Str}{r:PyData}(hf:f E=some (.sh (gk n),E))(h:E[i]? =some s)(v:Sw s d)(e:aB [gk n,d]=some (.sh r)):am aB (af false f (af false (aa i) ai)) E=some (.sh r,E):=by
 obtain⟨x,e1,e2⟩:=Kv h v
 exact aE (ss:=[.sh (gk n),x]) (LT hf e1) (by simp only[fq,HG,e2,Z0,Z1]) e
theorem FB{x:PyData}(h:f E=some (.sh x,E))(d:Ai x x=some true):d5 (ah qP false f (pC x)) E=some (false,E):=by
 simp only[d5,ah,h,pC,Z0,qP,jf,look,Sl.val,d,Z1,iy]
theorem zO{g:ba}{x y:PyData}(h:f E=some (.sh x,E))(k:g E=some (.sh y,E))(d:Ai x x=some true)(d':Ai y y=some true):bT (nw (d5 (ah qP false f (pC x))) (d5 (ah qP false g (pC y)))) (bq (pC (.bool false))) aW E=some (E,.nx):=dY (LQ (FB h d) (FB k d')) rfl
section
variable {S u d:PyData} {X2 X3:Sl} {W L:List (List Nat)}
abbrev lE(S u:PyData)(X2 X3:Sl)(W L:List (List Nat))(a b:Sl):List Sl:=[.sh S,.sh u,X2,X3,xO W,xO L,.ow ix,.ow crdB,a,b]
theorem Bi(n:Str) (a b:Sl) (v:Sw X3 d) (e1:aB [gk n,d]=some (.sh (.str "rule"))) (e2:aB [gk n,xL W]=some (.sh (.str "many"))):(ii (gk n) (lE S u X2 X3 W L a b)).bind ij=some (lE S u X2 X3 W L a (.sh (gk n)),.nx):=by
 have t:ii (gk n) (lE S u X2 X3 W L a b)=some (lE S u X2 X3 W L a (.sh (gk n))):=rfl
 rw[t,Option.bind_some,ij]
 exact zO (m4 (f:=aa 9) (i:=3) (n:=n) rfl rfl v e1) (m4 (f:=aa 9) (i:=4) (n:=n) rfl rfl (.ow _) e2) (by kernel_rfl) (by kernel_rfl)
theorem Bj(k:Int)(a b:Sl)(v:Sw X3 d)(nr:CI d)(my:Mp (xL W))(lg:Lng L):(io (.int k) (lE S u X2 X3 W L a b)).bind ip=some (lE S u X2 X3 W L (iS k) (.sh (gk "cord_of")),.nx):=by
 have t:io (.int k) (lE S u X2 X3 W L a b)=some (lE S u X2 X3 W L (iS k) b):=rfl
 rw[t,Option.bind_some,ip]
 have r:=CK nr
 have m:=CL my
 have l:=CM lg
 have it:bw (cK (aw (jR "pieces_needed") (aw (jR "cord_of") cr))) (lE S u X2 X3 W L (iS k) b)=some ([gk "pieces_needed",gk "cord_of"],lE S u X2 X3 W L (iS k) b):=rfl
 have f1:eR (bw (cK (aw (jR "pieces_needed") (aw (jR "cord_of") cr)))) ii ij (lE S u X2 X3 W L (iS k) b)=some (lE S u X2 X3 W L (iS k) (.sh (gk "cord_of")),.nx):=by
  unfold eR
  rw[it,Option.bind_some]
  show bB ii ij [gk "pieces_needed",gk "cord_of"] _=_
  rw[bB,Bi "pieces_needed" _ _ v r.1 m.1,Option.bind_some]
  show bB ii ij [gk "cord_of"] _=_
  rw[bB,Bi "cord_of" _ _ v r.2 m.2]
  rfl
 rw[aF f1,aF (zO (m4 (f:=jR "pieces_needed") (i:=5) (n:="pieces_needed") rfl rfl (.ow _) l.1) (m4 (f:=jR "cord_of") (i:=5) (n:="cord_of") rfl rfl (.ow _) l.2) (by kernel_rfl) (by kernel_rfl))]
 have c:am aB (af false (jR "rule_of") (af false (ah bK false (aa 6) (aa 7)) ai)) (lE S u X2 X3 W L (iS k) (.sh (gk "cord_of")))=some (.sh (.str "rule"),lE S u X2 X3 W L (iS k) (.sh (gk "cord_of"))):=aE (ss:=[.sh (gk "rule_of"),.ow (ix++crdB)]) rfl rfl (gr Fx (Bh Kt) HC vD)
 exact zO (m4 (f:=jR "rule_of") (i:=6) (n:="rule_of") rfl rfl (.ow _) (gr Fx HE Kr zN)) c (by kernel_rfl) (by kernel_rfl)
end
theorem HH(ns:List Int)(k:Nat)(E:List Sl)(hE:E[0]? =some (nS ns)):am bp (af false (aa 0) (af false (pC (.int (k:Int))) ai)) E=some (iS (ns.getD k 0),E):=by
 have v0:aa 0 E=some (nS ns,E):=by simp only[aa,hE,Z0]
 exact aE (ss:=[nS ns,iS (k:Int)]) (LT v0 rfl) rfl (sC ns k)
theorem Ni{S u:PyData}{L:List PyData}{s:Sl}(hf:f [.sh S,.sh u,.ow L,.no,.no,.no,.no,.no,.no,.no]=some (s,[.sh S,.sh u,.ow L,.no,.no,.no,.no,.no,.no,.no]))(v:Sv s d):∃X2 X3,Sw X3 d∧aH 3 f [.sh S,.sh u,.ow L,.no,.no,.no,.no,.no,.no,.no]=some ([.sh S,.sh u,X2,X3,.no,.no,.no,.no,.no,.no],.nx):=by
 cases v with
 |sh d=>exact⟨_,_,.sh d,eL hf (show 3 < 10 by decide)⟩
 |ow ds=>exact⟨_,_,.ow ds,kA hf (show 3 < 10 by decide)⟩
 |br d=>
  by_cases h:fL d=true
  ·refine⟨.ow L,_,.sh d,?_⟩
   unfold aH
   rw[hf,Option.bind_some]
   simp only[PL.settle,h,if_true,Z0]
   rfl
  ·refine⟨.sh (.list L),_,.sh d,?_⟩
   unfold aH
   rw[hf,Option.bind_some]
   simp only[PL.settle,h,Z0,iy]
   rfl
theorem Kw{O:List (List Nat)}(u:Uni U)(n1:1≤U.length)(d:Drn U O)(l:O.length≤24):Rl (NhFam.aA (O++[U])):=by
 have hF:∀w∈O++[U],w≠[]∧NhFam.Sub U w:=fun w hw=>by
  rcases Zah.mp hw with q |q
  ·exact⟨(d w q).1,List.Pairwise.sublist (d w q).2 u.srt,fun x hx=>(d w q).2.subset hx⟩
  ·rw[Zaf.mp q]
   exact⟨fun z=>by rw[z]at n1;simp at n1,u.srt,NhFam.le.refl U⟩
 have t:=NhFam.cS fun v hv=>(hF v hv).2
 have inF:∀w∈NhFam.aA (O++[U]),w∈O++[U]:=fun w hw=>((NhFam.uL fun v hv=>(hF v hv).2).mp ((t.mem w).mp hw)).1
 have fw:=sS (O++[U])
 rw[pA,List.length_singleton]at fw
 have sh:∀w∈NhFam.aA (O++[U]),w.length≤26:=fun w hw=>u.short (t.sub w hw)
 refine⟨⟨fun w hw=>u.azw (t.sub w hw),fun w hw=>by have:=sh w hw;omega,by omega⟩,⟨fun z=>?_,fun w hw=>⟨(hF w (inF w hw)).1,(t.sub w hw).1⟩,t.srt.imp_of_mem fun {v w} hv hw lt=>⟨fun k=>?_,lt⟩⟩,by omega,sh⟩
 ·obtain⟨v,m,_⟩:=NhFam.lP (U:=U) (f:=NhFam.up (O++[U])) U.length U (fz _) ⟨u.srt,NhFam.le.refl U⟩ ⟨U,by simp,NhFam.le.refl U⟩
  have:=(t.mem v).mpr m
  rw[z]at this
  cases this
 ·have m:=((t.mem w).mp hw).2.2 v (t.sub v hv) ((t.mem v).mp hv).2.1 k
  subst m
  exact NhFam.fT _ lt
abbrev kE(S:PyData)(U:List Nat)(X2 X3 a b c d:Sl):List Sl:=[.sh S,tS U,X2,X3,a,b,c,d,.no,.no]
theorem Kx(ns:List Int)(hl:ns.length≤63):lS [.list (ns.map .int)]=some (.sh (.bool true)):=by
 obtain⟨U,e0,u,n1,n5⟩:=vA (ns.getD 0 0)
 obtain⟨O,e1,dr,l1⟩:=xD u ns hl
 have R:=Kw u n1 dr l1
 generalize NhFam.aA (O++[U])=L0 at e1 R
 obtain⟨s,d,e2,v,nr⟩:=qL R (ns.getD 9 0)
 obtain⟨W,e3,my⟩:=xH (ns.getD 10 0)
 obtain⟨L,e4,lg⟩:=xG (ns.getD 11 0)
 generalize hS:PyData.list (ns.map .int)=S
 have at_:∀(k:Nat) (E:List Sl),E[0]? =some (.sh S)→am bp (af false (aa 0) (af false (pC (.int (k:Int))) ai)) E=some (.sh (.int (ns.getD k 0)),E):=fun k E h=>HH ns k E (by subst hS;exact h)
 rw[hS]at e1
 have s1:aH 1 (am eP (af false (am bp (af false (aa 0) (af false (pC (.int 0)) ai))) (af false (pC (.int 5)) ai))) [.sh S,.no,.no,.no,.no,.no,.no,.no,.no,.no]=some ([.sh S,.sh (av U),.no,.no,.no,.no,.no,.no,.no,.no],.nx):=eL (i:=1) (aE (ss:=[.sh (.int (ns.getD 0 0)),.sh (.int 5)]) (LT (at_ 0 _ rfl) rfl) rfl e0) (show 1 < 10 by decide)
 have c2:am ft (af false (aa 0) (af false (pC (.int 1)) (af false (aa 1) ai))) [.sh S,.sh (av U),.no,.no,.no,.no,.no,.no,.no,.no]=some (.ow (L0.map av),[.sh S,.sh (av U),.no,.no,.no,.no,.no,.no,.no,.no]):=aE (ss:=[.sh S,.sh (.int 1),.sh (av U)]) rfl rfl e1
 have s2:=kA (i:=2) c2 (show 2 < 10 by decide)
 have c3:am du (af false (aa 2) (af false (am bp (af false (aa 0) (af false (pC (.int 9)) ai))) ai)) [.sh S,.sh (av U),.ow (L0.map av),.no,.no,.no,.no,.no,.no,.no]=some (s,[.sh S,.sh (av U),.ow (L0.map av),.no,.no,.no,.no,.no,.no,.no]):=aE (ss:=[.al 2,.sh (.int (ns.getD 9 0))]) (LT rfl (at_ 9 _ rfl)) rfl e2
 obtain⟨X2,X3,w,s3⟩:=Ni c3 v
 have s4:aH 4 (am fu (af false (am bp (af false (aa 0) (af false (pC (.int 10)) ai))) ai)) (kE S U X2 X3 .no .no .no .no)=some ((kE S U X2 X3 (.ow (W.map av)) .no .no .no),.nx):=kA (i:=4) (aE (ss:=[.sh (.int (ns.getD 10 0))]) (LU (at_ 10 _ rfl)) rfl e3) (show 4 < 10 by decide)
 have s5:aH 5 (am fv (af false (am bp (af false (aa 0) (af false (pC (.int 11)) ai))) ai)) (kE S U X2 X3 (.ow (W.map av)) .no .no .no)=some ((kE S U X2 X3 (.ow (W.map av)) (.ow (L.map av)) .no .no),.nx):=kA (i:=5) (aE (ss:=[.sh (.int (ns.getD 11 0))]) (LU (at_ 11 _ rfl)) rfl e4) (show 5 < 10 by decide)
 have s6:aH 6 (bh [none,none] (p_ (pC (.str "abcdefghijk"))) qk a_ ql) (kE S U X2 X3 (.ow (W.map av)) (.ow (L.map av)) .no .no)=some ((kE S U X2 X3 (.ow (W.map av)) (.ow (L.map av)) (.ow ix) .no),.nx):=by kernel_rfl
 have s7:aH 7 (bh [none,none] (p_ (pC (.str "abcdefghijk"))) qm a_ qo) (kE S U X2 X3 (.ow (W.map av)) (.ow (L.map av)) (.ow ix) .no)=some ((kE S U X2 X3 (.ow (W.map av)) (.ow (L.map av)) (.ow ix) (.ow crdB.reverse)),.nx):=by kernel_rfl
 have s8:fA (j0 7) (kE S U X2 X3 (.ow (W.map av)) (.ow (L.map av)) (.ow ix) (.ow crdB.reverse))=some (lE S (av U) X2 X3 W L .no .no,.nx):=rfl
 have f9:eR (d9 (af false (pC (.int 2)) ai)) io ip (lE S (av U) X2 X3 W L .no .no)=some (lE S (av U) X2 X3 W L (.sh (.int 1)) (.sh (gk "cord_of")),.nx):=by
  have it:d9 (af false (pC (.int 2)) ai) (lE S (av U) X2 X3 W L .no .no)=some ([.int 0,.int 1],lE S (av U) X2 X3 W L .no .no):=by kernel_rfl
  unfold eR
  rw[it,Option.bind_some]
  show bB io ip [.int 0,.int 1] _=_
  rw[bB,Bj 0 _ _ w nr my lg,Option.bind_some]
  show bB io ip [.int 1] _=_
  rw[bB,Bj 1 _ _ w nr my lg]
  rfl
 have z:am aB (af false (jR "rule_of") (af false (cK cr) ai)) (lE S (av U) X2 X3 W L (.sh (.int 1)) (.sh (gk "cord_of")))=some (.sh (.str "rule"),lE S (av U) X2 X3 W L (.sh (.int 1)) (.sh (gk "cord_of"))):=aE (ss:=[.sh (gk "rule_of"),.ow []]) rfl rfl (gr Fx (Bh Ku) HC vD)
 have q:ah kY false (am aB (af false (jR "rule_of") (af false (cK cr) ai))) (pC (.str "rule")) (lE S (av U) X2 X3 W L (.sh (.int 1)) (.sh (gk "cord_of")))=some (.sh (.bool true),lE S (av U) X2 X3 W L (.sh (.int 1)) (.sh (gk "cord_of"))):=by
  have d1:Ai (.str "rule") (.str "rule")=some true:=by kernel_rfl
  simp only[ah,z,pC,Z0,kY,jf,look,Sl.val,d1,Z1,iy]
 have g:lS [S]=(wP [.sh S,.no,.no,.no,.no,.no,.no,.no,.no,.no]).bind fun a=>match a.2 with |.rt r=>fc r |.nx=>some (.sh .none) |_=>none:=rfl
 rw[g,wP,aF s1,aF s2]
 simp only[List.set]
 rw[aF s3,aF s4,aF s5,aF s6,aF s7,aF s8,aF f9,zK q]
 rfl
end Nhk55
namespace Nhk55
open PySem L2 Nh PL
open PySem.W (nsIn codeIn keepIn fnOf)
theorem Me{xs:List Str}(h:∀a0,bindArgs fd ⟨[a0],[]⟩=pure (xs.zip [a0])):∀us:List Value,us.length=1→bindArgs fd ⟨us,[]⟩=pure (xs.zip us)
 |[a0],_=>h a0
theorem Nj{xs:List Str}(h:∀a0 a1,bindArgs fd ⟨[a0,a1],[]⟩=pure (xs.zip [a0,a1])):∀us:List Value,us.length=2→bindArgs fd ⟨us,[]⟩=pure (xs.zip us)
 |[a0,a1],_=>h a0 a1
theorem Nk{xs:List Str}(h:∀a0 a1 a2,bindArgs fd ⟨[a0,a1,a2],[]⟩=pure (xs.zip [a0,a1,a2])):∀us:List Value,us.length=3→bindArgs fd ⟨us,[]⟩=pure (xs.zip us)
 |[a0,a1,a2],_=>h a0 a1 a2
abbrev HD(K:Frag)(n:Str)(st:Stmt):Prop:=∃(f:Addr) (oc:Value) (od an:Option Addr) (sl:Array (Option Value)) (kV dc pm cd ct:Value),nsIn K mainGlobals n=some (some (.ref f))∧K.lookup f=some ⟨oc,od,.func (fnOf n n (de st) (bE st) (ak st) .none kV dc pm an cd ct),sl⟩∧codeIn K cd n=true∧keepIn K (.ref f)=true
theorem Mf{K:Frag}{n:Str}{f:Addr}{od:Option Addr}{sl:Array (Option Value)}{kV dc cd ct:Value}(a:nsIn K mainGlobals n=some (some (.ref f)))(l:K.lookup f=some ⟨oc,od,.func (fnOf n n (de st) (bE st) (ak st) .none kV dc pm an cd ct),sl⟩)(c:codeIn K cd n=true)(k:keepIn K (.ref f)=true):HD K n st:=⟨f,oc,od,an,sl,kV,dc,pm,cd,ct,a,l,c,k⟩
theorem FC{K:Frag}{mg:Str→Option Value}(d:HD K x st)(X:K.In h)(G:h.Ns mainGlobals mg)(b:∀(kV doc pm:Value) (an:Option Addr) (cdv ct:Value) (us:List Value),us.length=ps.length→bindArgs (fnOf x x (de st) (bE st) (ak st) .none kV doc pm an cdv ct) ⟨us,[]⟩=pure (ps.zip us)):Def K mg x st ps:=by
 obtain⟨f,oc,od,an,sl,kV,dc,pm,cd,ct,a,l,c,k⟩:=d
 exact I_ X G a l c k b
theorem m8{K:Frag}{mg:Str→Option Value}(X:K.In h)(G:h.Ns mainGlobals mg)(d:HD K x st)(b:∀(kV doc pm:Value) (an:Option Addr) (cdv ct a0:Value),bindArgs (fnOf x x (de st) (bE st) (ak st) .none kV doc pm an cdv ct) ⟨[a0],[]⟩=pure ([p0].zip [a0]):=by exact fun _ _ _ _ _ _ _=>rfl):Def K mg x st [p0]:=FC d X G fun a b' c d e f us hl=>Me (b a b' c d e f) us hl
theorem vE{K:Frag}{mg:Str→Option Value}{p1:Str}(X:K.In h)(G:h.Ns mainGlobals mg)(d:HD K x st)(b:∀(kV doc pm:Value) (an:Option Addr) (cdv ct a0 a1:Value),bindArgs (fnOf x x (de st) (bE st) (ak st) .none kV doc pm an cdv ct) ⟨[a0,a1],[]⟩=pure ([p0,p1].zip [a0,a1]):=by exact fun _ _ _ _ _ _ _ _=>rfl):Def K mg x st [p0,p1]:=FC d X G fun a b' c d e f us hl=>Nj (b a b' c d e f) us hl
theorem LB{K:Frag}{mg:Str→Option Value}{p1 p2:Str}(X:K.In h)(G:h.Ns mainGlobals mg)(d:HD K x st)(b:∀(kV doc pm:Value) (an:Option Addr) (cdv ct a0 a1 a2:Value),bindArgs (fnOf x x (de st) (bE st) (ak st) .none kV doc pm an cdv ct) ⟨[a0,a1,a2],[]⟩=pure ([p0,p1,p2].zip [a0,a1,a2]):=by exact fun _ _ _ _ _ _ _ _ _=>rfl):Def K mg x st [p0,p1,p2]:=FC d X G fun a b' c d e f us hl=>Nk (b a b' c d e f) us hl
theorem Kz{l:OpenLaw} {w:World} {K:Frag}  {mg:Str→Option Value} {fa z0:Addr} (X:K.In h) (G:h.Ns mainGlobals mg) (hfa:mg "law"=some (.ref fa)) (B:Bn mg)
  {z1 z2:Option Addr} {z3:Array (Option Value)} {z4 z5 z6 z7 z8:Value}
  {z9:Addr} (T:iF K rD [some z9])
  (za:HD K "is_nail" nV)
  (zb:HD K "short_form" jz)
  (zc:HD K "is_fall" nW)
  (zd:HD K "set_of" qp)
  (ze:HD K "nails_of" lT)
  (zf:HD K "bits_of" nX)
  {zg:Addr} (zh:nsIn K mainGlobals "in_told_order"=some (some (.ref z0))) (zi:K.lookup z0=some ⟨z4,z1,.func (fnOf "in_told_order" "in_told_order" (de cP) (bE cP) (ak cP) .none z5 z6 z7 z2 (.ref zg) z8),z3⟩) (zj:codeIn K (.ref zg) "in_told_order"=true) (zk:keepIn K (.ref z0)=true)
  (zl:codeHdIn K zg z9=true) (zm:mh K z9=some (("in_told_order":Str)++".<locals>."++"<lambda>"))
  (zn:HD K "has_part_among" fU)
  (zo:HD K "meets_each" jA)
  (zp:HD K "least_of" lU)
  (zq:HD K "all_sets" lW)
  (zr:HD K "check_many" jB)
  (zs:HD K "nails_among" iQ)
  (zt:HD K "least_sets" jC)
  (zu:HD K "meeting_sets" iq)
  (zv:HD K "falling_sets" ir)
  (zw:HD K "least_or_no_rule" fk)
  (zx:HD K "check_rule" jD)
  (zy:HD K "first_half" jE)
  (zz:HD K "round_pieces" iu)
  (y0:HD K "pieces_needed" gA)
  (y1:HD K "cord_of" nY)
  (y2:HD K "rule_of" nZ)
  (y3:HD K "_law_at" qr)
  (y4:HD K "_law_mix" n4)
  (y5:HD K "_law_word" lX)
  (y6:HD K "_law_has_part" iv)
  (y7:HD K "_law_least" kf)
  (y8:HD K "_law_rule" lY)
  (y9:HD K "_law_nails" kh)
  (ya:HD K "_law_said" lZ)
  (yb:HD K "_law_no_rule" iR)
  (yc:HD K "_law_many" l4)
  (yd:HD K "_law_long" l6)
  (ye:HD K "law" qu)
  {yf:Tok} (yg:nsIn K mainGlobals "LETTERS"=some (some (.str "abcdefghijklmnopqrstuvwxyz" yf)))
  {yh:Tok} (yi:nsIn K mainGlobals "MOST_NAILS"=some (some (.int 10 yh)))
  {yj:Tok} (yk:nsIn K mainGlobals "MOST_PIECES"=some (some (.int 800 yj)))
  {yl ym yn yo yp yq yr ys yt yu yv:Addr}
  (yw:nsIn K mainGlobals "NoCord"=some (some (.ref yl)))
  (yx:nsIn K mainGlobals "NoNails"=some (some (.ref ym)))
  (yy:nsIn K mainGlobals "NoRule"=some (some (.ref yn)))
  (yz:nsIn K mainGlobals "NoText"=some (some (.ref yo)))
  (x0:nsIn K mainGlobals "NoMove"=some (some (.ref yp)))
  (x1:nsIn K mainGlobals "NoLine"=some (some (.ref yq)))
  (x2:nsIn K mainGlobals "NoName"=some (some (.ref yr)))
  (x3:nsIn K mainGlobals "NoNumber"=some (some (.ref ys)))
  (x4:nsIn K mainGlobals "TooMany"=some (some (.ref yt)))
  (x5:nsIn K mainGlobals "TooLong"=some (some (.ref yu)))
  (x6:nsIn K mainGlobals "ValueError"=some none)
  (x7:nsIn K mainGlobals "HangError"=some (some (.ref yv)))
  (x8:excIn K ym LC "ValueError.__new__"=true)
  (x9:(clsIn K ym).isSome=true)
  (xa:findIn K (.ref ym) "__getattribute__"=some (some (.builtin "BaseException.__getattribute__")))
  (xb:findIn K (.ref ym) "__getattr__"=some none)
  (xc:findIn K (.ref ym) "__class__"=some (some (.builtin "object.__class__")))
  (xd:mroIn K ym (.type "BaseException")=some true)
  (xe:mroIn K ym (.type "object")=some true)
  (xf:kitOne K (.ref ym) (.ref yl)=some false)
  (xg:kitOne K (.ref ym) (.ref ym)=some true)
  (xh:kitOne K (.ref ym) (.ref yn)=some false)
  (xi:kitOne K (.ref ym) (.ref yo)=some false)
  (xj:kitOne K (.ref ym) (.ref yp)=some false)
  (xk:kitOne K (.ref ym) (.ref yq)=some false)
  (xl:kitOne K (.ref ym) (.ref yr)=some false)
  (xm:kitOne K (.ref ym) (.ref ys)=some false)
  (xn:kitOne K (.ref ym) (.ref yt)=some false)
  (xo:kitOne K (.ref ym) (.ref yu)=some false)
  (xp:kitOne K (.ref ym) (.type "ValueError")=some true)
  (xq:exmOne K (.ref ym) (.ref ym)=some true)
  (xr:exmOne K (.ref ym) (.ref yv)=some true)
  (xt:excIn K yn LC "ValueError.__new__"=true)
  (xu:(clsIn K yn).isSome=true)
  (xv:findIn K (.ref yn) "__getattribute__"=some (some (.builtin "BaseException.__getattribute__")))
  (xw:findIn K (.ref yn) "__getattr__"=some none)
  (xx:findIn K (.ref yn) "__class__"=some (some (.builtin "object.__class__")))
  (xy:mroIn K yn (.type "BaseException")=some true)
  (xz:mroIn K yn (.type "object")=some true)
  (v0:kitOne K (.ref yn) (.ref yl)=some false)
  (v1:kitOne K (.ref yn) (.ref ym)=some false)
  (v2:kitOne K (.ref yn) (.ref yn)=some true)
  (v3:kitOne K (.ref yn) (.ref yo)=some false)
  (v4:kitOne K (.ref yn) (.ref yp)=some false)
  (v5:kitOne K (.ref yn) (.ref yq)=some false)
  (v6:kitOne K (.ref yn) (.ref yr)=some false)
  (v7:kitOne K (.ref yn) (.ref ys)=some false)
  (v8:kitOne K (.ref yn) (.ref yt)=some false)
  (v9:kitOne K (.ref yn) (.ref yu)=some false)
  (va:kitOne K (.ref yn) (.type "ValueError")=some true)
  (vb:exmOne K (.ref yn) (.ref yv)=some true)
  (vc:excIn K yt LC "ValueError.__new__"=true)
  (vd:(clsIn K yt).isSome=true)
  (ve:findIn K (.ref yt) "__getattribute__"=some (some (.builtin "BaseException.__getattribute__")))
  (vf:findIn K (.ref yt) "__getattr__"=some none)
  (vg:findIn K (.ref yt) "__class__"=some (some (.builtin "object.__class__")))
  (vh:mroIn K yt (.type "BaseException")=some true)
  (vi:mroIn K yt (.type "object")=some true)
  (vj:kitOne K (.ref yt) (.ref yl)=some false)
  (vk:kitOne K (.ref yt) (.ref ym)=some false)
  (vl:kitOne K (.ref yt) (.ref yn)=some false)
  (vm:kitOne K (.ref yt) (.ref yo)=some false)
  (vn:kitOne K (.ref yt) (.ref yp)=some false)
  (vo:kitOne K (.ref yt) (.ref yq)=some false)
  (vp:kitOne K (.ref yt) (.ref yr)=some false)
  (vq:kitOne K (.ref yt) (.ref ys)=some false)
  (vr:kitOne K (.ref yt) (.ref yt)=some true)
  (vt:kitOne K (.ref yt) (.ref yu)=some false)
  (vu:kitOne K (.ref yt) (.type "ValueError")=some true)
  (vv:exmOne K (.ref yt) (.ref yv)=some true)
  (vw:excIn K yu LC "ValueError.__new__"=true)
  (vx:(clsIn K yu).isSome=true)
  (vy:findIn K (.ref yu) "__getattribute__"=some (some (.builtin "BaseException.__getattribute__")))
  (vz:findIn K (.ref yu) "__getattr__"=some none)
  (u0:findIn K (.ref yu) "__class__"=some (some (.builtin "object.__class__")))
  (u1:mroIn K yu (.type "BaseException")=some true)
  (u2:mroIn K yu (.type "object")=some true)
  (u3:kitOne K (.ref yu) (.ref yl)=some false)
  (u4:kitOne K (.ref yu) (.ref ym)=some false)
  (u5:kitOne K (.ref yu) (.ref yn)=some false)
  (u6:kitOne K (.ref yu) (.ref yo)=some false)
  (u7:kitOne K (.ref yu) (.ref yp)=some false)
  (u8:kitOne K (.ref yu) (.ref yq)=some false)
  (u9:kitOne K (.ref yu) (.ref yr)=some false)
  (ua:kitOne K (.ref yu) (.ref ys)=some false)
  (ub:kitOne K (.ref yu) (.ref yt)=some false)
  (uc:kitOne K (.ref yu) (.ref yu)=some true)
  (ud:kitOne K (.ref yu) (.type "ValueError")=some true)
  (ue:exmOne K (.ref yu) (.ref yv)=some true):
  ∃fd:FuncData,(∀(s:Shared) (v:Value),BindsTo s fd ⟨[v],[]⟩ [("_law_script",v)])∧∀base:Heap,K.In base→base.Ns mainGlobals mg→FnOk l.prog w K mg base xK 14 fa fd ["_law_script"] (gw K lS):=by
 obtain⟨uf,ug,uh,ui,uj,uk,ul,um,un,uo,up,uq,ur,ut⟩:=id ye
 have e:=hfa.symm.trans (mg_of X G up)
 cases e
 have F0:=xZ (st:=qu) uq ur ut
 have uu:=mg_of X G yg
 have uv:=mg_of X G yi
 have uw:=mg_of X G yk
 have ux:ExCls K ym:=⟨Option.isSome_iff_exists.mp x9,xa,xb,xc,xd,xe⟩
 have uy:ExCls K yn:=⟨Option.isSome_iff_exists.mp xu,xv,xw,xx,xy,xz⟩
 have uz:ExCls K yt:=⟨Option.isSome_iff_exists.mp vd,ve,vf,vg,vh,vi⟩
 have t0:ExCls K yu:=⟨Option.isSome_iff_exists.mp vx,vy,vz,u0,u1,u2⟩
 have XX:XF K mg:=⟨⟨yl,mg_of X G yw,(aD yx ux xf (aD yy uy v0 (aD x4 uz vj (aD x5 t0 u3 g8))))⟩,⟨ym,mg_of X G yx,(aD yx ux xg (aD yy uy v1 (aD x4 uz vk (aD x5 t0 u4 g8)))),⟨yx,mg_of X G yx,x8,ux⟩⟩,⟨yn,mg_of X G yy,(aD yx ux xh (aD yy uy v2 (aD x4 uz vl (aD x5 t0 u5 g8)))),⟨yy,mg_of X G yy,xt,uy⟩⟩,⟨yo,mg_of X G yz,(aD yx ux xi (aD yy uy v3 (aD x4 uz vm (aD x5 t0 u6 g8))))⟩,⟨yp,mg_of X G x0,(aD yx ux xj (aD yy uy v4 (aD x4 uz vn (aD x5 t0 u7 g8))))⟩,⟨yq,mg_of X G x1,(aD yx ux xk (aD yy uy v5 (aD x4 uz vo (aD x5 t0 u8 g8))))⟩,⟨yr,mg_of X G x2,(aD yx ux xl (aD yy uy v6 (aD x4 uz vp (aD x5 t0 u9 g8))))⟩,⟨ys,mg_of X G x3,(aD yx ux xm (aD yy uy v7 (aD x4 uz vq (aD x5 t0 ua g8))))⟩,⟨yt,mg_of X G x4,(aD yx ux xn (aD yy uy v8 (aD x4 uz vr (aD x5 t0 ub g8)))),⟨x4,mg_of X G x4,vc,uz⟩⟩,⟨yu,mg_of X G x5,(aD yx ux xo (aD yy uy v9 (aD x4 uz vt (aD x5 t0 uc g8)))),⟨x5,mg_of X G x5,vw,t0⟩⟩,⟨mg_none_of X G x6,(aD yx ux xp (aD yy uy va (aD x4 uz vu (aD x5 t0 ud g8))))⟩,⟨yv,mg_of X G x7,fun n hn D hD=>by
  simp only[Zag,List.not_mem_nil,or_false]at hn
  rcases hn with rfl |rfl |rfl |rfl
  ·rw[yx]at hD;cases hD;exact xr
  ·rw[yy]at hD;cases hD;exact vb
  ·rw[x4]at hD;cases hD;exact vv
  ·rw[x5]at hD;cases hD;exact ue⟩,(let ⟨f,_,_,_,_,_,_,_,_,_,a,_⟩:=y0;⟨f,a,mg_of X G a⟩),(let ⟨f,_,_,_,_,_,_,_,_,_,a,_⟩:=y1;⟨f,a,mg_of X G a⟩),(let ⟨f,_,_,_,_,_,_,_,_,_,a,_⟩:=y2;⟨f,a,mg_of X G a⟩),⟨ym,mg_of X G yx,fun n hn D hD=>by
  simp only[Zag,List.not_mem_nil,or_false]at hn
  rcases hn with rfl
  ·rw[yx]at hD;cases hD;exact xq⟩⟩
 have t1:DefT K mg "in_told_order" cP ["sets"] zg z9:=⟨⟨z0,_,_,_,_,_,_,_,_,zi,zj,zk,mg_of X G zh,.all (fun us hl=>Me (fun _=>rfl) us hl)⟩,zl,zm⟩
 refine⟨fnOf "law" "law" (de qu) (bE qu) (ak qu) .none uk ul um ui un uo,fun s v=>.of_eq rfl,fun base _ _=>?_⟩
 exact JU F0 ⟨B,m8 X G za,m8 X G zb,m8 X G zc,m8 X G zd,m8 X G ze,m8 X G zf,⟨_,_,t1⟩,vE X G zn,vE X G zo,m8 X G zp,m8 X G zq,m8 X G zr,m8 X G zs,m8 X G zt,m8 X G zu,m8 X G zv,m8 X G zw,m8 X G zx,m8 X G zy,m8 X G zz,m8 X G y0,m8 X G y1,m8 X G y2,vE X G y3,vE X G y4,m8 X G y5,vE X G y6,m8 X G y7,LB X G y8,vE X G y9,vE X G ya,vE X G yb,m8 X G yc,m8 X G yd,⟨_,uu⟩,⟨_,uv⟩,⟨_,uw⟩,XX⟩
theorem Nl{z9:Addr}{l:OpenLaw}{q:Program}{d:DefRec}{K:Params→Frag}(hn:l.most=some 63)(hdf:d.params.defaults=[])
  (T:∀w:World,iF (K w.params) rD [some z9]) (hY:∀(w:World) (h:Heap),YP w h→(K w.params).In h∧qa (K w.params) h [some z9])
  (F:∀(w:World) (mg:Str→Option Value) (fa:Addr) (h:Heap),iF (K w.params) rD [some z9]→(K w.params).In h→h.Ns mainGlobals mg→mg d.name=some (.ref fa)→
   ∃fd:FuncData,(∀(s:Shared) (u:Value),BindsTo s fd ⟨[u],[]⟩ [("_law_script",u)])∧∀base:Heap,(K w.params).In base→base.Ns mainGlobals mg→FnOk l.prog w (K w.params) mg base xK 14 fa fd ["_law_script"] (gw (K w.params) lS)):
  PySem.W.WalkO q loose XP YP l.row.toRowW d [] (fun f vs=>PySem.call f vs):=
 L2.D6 (n:=63) (k:=14) (x:="_law_script") (CX:=fun _=>xK) (sp:=fun w=>gw (K w.params) lS) hn (by decide) hdf ⟨rfl,by decide,by decide⟩ (fun w h Y=>⟨(hY w h Y).1,G8 (hY w h Y).1 (T w) (hY w h Y).2⟩) (fun w mg fa h=>F w mg fa h (T w)) (fun _ _ a ns hl hS=>Jq (Kx ns hl) hS) fun _ _ _ _ _ z=>z
end Nhk55
open PySem PySem.W PyProof.Rows
namespace PySem.W.Fast
def tw11305810538700024518:=0
def tw11300635506645319228:=0
def tw18157288635680861269:=0
def tw17123828427833977537:=0
def tw7328692374432702670:=0
def tw8713203053427720104:=0
def tw650915644374680539:=0
def tw3140329381992842443:=0
def tw1323870223269479054:=0
def tw16461546522245897620:=0
def tw13386114330465763766:=0
def tw12167223872144990826:=0
def tw10406581751211648235:=0
def tw15985301917433661983:=0
def tw18096904564883107558:=0
def tw2184360979216029458:=0
def tw14528592238933087227:=0
def tw8521050250551767666:=0
def tw7107211249937075649:=0
def tw11133335523371575490:=0
def tw15899018133176461876:=0
def tw1243500030729097745:=0
def tw6885345077949904371:=0
def tw15870173922008839214:=0
def tw10068484146006379804:=0
def tw1717557089099454863:=0
def tw10159302645818427701:=0
def tw12020354996041209008:=0
def tw11179020109099191520:=0
def tw4976414461481237348:=0
def tw7907722640753418040:=0
def tw7907679454166617588:=0
def tw12004660412988091854:=0
def tw4291724511929098668:=0
def tw13583811960949380672:=0
def tw2887801295852137165:=0
def tw2584599697155098380:=0
def tw7486801119104426530:=0
def tw2461791995276245495:=0
def tw2992690137225311860:=0
def tw6381865730320991258:=0
def tw16759331069037481751:=0
def tw7818720661148699133:=0
def tw11925635271718728739:=0
def tw1690389249844954127:=0
def tw11052280365415671543:=0
def tw2285353499946765266:=0
def tw10171986934095816318:=0
def tw14506641365841800632:=0
def tw15424542180218676017:=0
def tw2165602601149517834:=0
def tw5387468889733894589:=0
def tw4194197139557454366:=0
def tw11687299791068490891:=0
def tw12918336560893259875:=0
def tw5586152107200131961:=0
def tw10435946989773152783:=0
def tw9195555288659633906:=0
def tw9483594915861847863:=0
def tw12708751832633929430:=0
def tw4796965039431717510:=0
def tw408282831736258211:=0
def tw6347593005744751006:=0
def tw11846336708069160195:=0
def tw569559453202485671:=0
def tw1559186808898547442:=0
def tw7155940842103160489:=0
def tw13936100576772813597:=0
def tw409496734816078118:=0
def tw14938554736930635824:=0
def tw6504984268370246225:=0
def tw10783571512775412948:=0
def tw10230016265538003900:=0
def tw18282340561297831607:=0
def tw14877347215630763581:=0
def tw7329152593522046803:=0
def tw10404520672917709576:=0
def tw4870388325723983927:=0
def tw1473745623375285058:=0
def tw15569056907041940348:=0
def tw10248855040929156128:=0
def tw294014125748462435:=0
def tw5949379480201444801:=0
def tw17848783252075147008:=0
def tw5626524690398989496:=0
def tw11884642837917970169:=0
def tw8094694157053623704:=0
def tw12350006599371515937:=0
def tw1109087785671455992:=0
def tw7844030509127328668:=0
def tw14049117225547842880:=0
def tw2793353872283471112:=0
def tw13721832965338128897:=0
def tw16416608359530526676:=0
def tw13085142486156695954:=0
def tw8342383376341444649:=0
def tw16771198862845467644:=0
def tw5933664746751159927:=0
def tw3184143340968915934:=0
def tw9535567116593037232:=0
def tw2061924079537292182:=0
def tw8896974922050284119:=0
def tw148882604589810258:=0
def tw8824561282530324325:=0
def tw9930688147617859272:=0
def tw6383810824849138378:=0
def tw14163413251920690705:=0
def tw3317267872748019057:=0
def tw736320663154202274:=0
def tw2878214278779909552:=0
def tw13126616074589124134:=0
def tw3102733461744951355:=0
def tw11094306154173203261:=0
def tw3083445504154492600:=0
def tw6786254421632667497:=0
def tw13371636410568792496:=0
def tw10817300183737370055:=0
def tw10901403989400584552:=0
def tw10349106754011576402:=0
def tw7404653113020632536:=0
def tw16259809835922568787:=0
def tw2986555798966473355:=0
def tw7724470801918652908:=0
def tw3993012873768014595:=0
def tw426528732954297210:=0
def tw8705417694834500564:=0
def tw331756138964145497:=0
def tw391317070759620464:=0
def tw11732405531347647616:=0
def tw8838301457420433344:=0
def tw7080421575902858377:=0
def tw6024273377019643499:=0
def tw15798095010463289132:=0
def tw4515564688616218606:=0
def tw1629926724076783446:=0
def tw6821628355382974903:=0
def tw3559415951556753271:=0
def tw16400887418988652337:=0
def tw10789519172233513081:=0
def tw12490190723411815334:=0
def tw11372726873364456231:=0
def tw17907427688114478873:=0
def tw9915216094556633931:=0
def tw10640893906737994935:=0
def tw1541720477224994354:=0
def tw8154033555418702677:=0
def tw8370227684528853989:=0
def tw17233323653863896618:=0
def tw15241823237517611297:=0
def tw13311859688747163264:=0
def tw1427907173777510727:=0
def tw17788312067904273713:=0
def tw17254006949194714817:=0
def tw3234575572645806860:=0
def tw5367230955002392689:=0
def tw15301766877837395559:=0
def tw4102976061617777884:=0
def tw12621815045030355405:=0
def tw4197693842932205617:=0
def tw15715833353947193601:=0
def tw6840160198347479677:=0
def tw15848917200540355417:=0
def tw17948841594647351198:=0
def tw8790316227265895555:=0
def tw14329047861388574650:=0
def tw5561595483021730904:=0
def tw15854109262589729985:=0
def tw14607952610654047300:=0
def tw11612662876312493007:=0
def tw5761769861611617627:=0
def tw13321737042112774645:=0
def tw5495121535058291517:=0
def tw10967094575596723027:=0
def tw15697943957129282760:=0
def tw16805828920564075119:=0
def tw30847471550643610:=0
def tw1197302321563895579:=0
def tw10713983972265821540:=0
def tw6150726555157395919:=0
def tw16262827938678074947:=0
def tw16106098196926981590:=0
def tw56244162277400919:=0
def tw15064428300833218591:=0
def tw17819699806386998702:=0
def tw12022109528467823857:=0
def tw73424112839581304:=0
def tw8448803950094441508:=0
def tw2755763455234190994:=0
def tw4416766170576345952:=0
def tw8871631842651511543:=0
def tw14691983664019128871:=0
def tw1829176879123702411:=0
def tw16052851710419521932:=0
def tw9906263597732347446:=0
def tw8604794787923207722:=0
def tw39467533841885649:=0
def tw5540229071693168408:=0
def tw12218301340044850364:=0
def tw3524372510851183751:=0
def tw10607117535711590578:=0
def tw13918620399866925648:=0
def tw3642549995315704668:=0
def tw5651533332747153731:=0
def tw16507744723955360209:=0
def tw514762891241512118:=0
def tw11244712665364923587:=0
def tw9277499889261195617:=0
def tw6856861657711846960:=0
def tw14511635754972547267:=0
def tw10883318751523635884:=0
end PySem.W.Fast
set_option maxRecDepth 100000 in
set_option maxHeartbeats 0 in
theorem PySem.Challenge.cw_nailhang_k55_making_refused_holds : PySem.Challenge.rw_nailhang_k55_making_refused.Holds := by
 w_on;o_law;k_head;(case hw=>w_witness2)
 k_fill
 refine' Nhk55.Nl (l:=PySem.Challenge.rw_nailhang_k55_making_refused) rfl rfl ?T (fun w h Y=>⟨PySem.W.km_in_of Y,?Y⟩) ?F
 case T=>
  intro w
  refine' ⟨PL.EC ?t2 ?t3 ?t4 ?t5 ?t6 ?t7,trivial⟩
  (case t2=>k_is)
  (case t3=>k_is)
  (case t4=>exact rfl)
  (case t5=>k_is)
  (case t6=>exact rfl)
  (case t7=>kernel_rfl)
 case Y=>
  refine' ⟨⟨PySem.W.km_tabs_of Y _ ?t8,?t9⟩,trivial⟩
  (case t8=>k_mem)
  (case t9=>kernel_rfl)
 case F=>
  intro w mg fa h T KX G hmg
  refine' Nhk55.Kz KX G hmg (PL.Lx KX G ?_ ?_ ?_ ?_ ?_ ?_ ?_ ?_ ?_ ?_ ?_ ?_ ?_ ?_ ?_ ?_ ?_ ?_ ?_ ?_) T ?_ ?_ ?_ ?_ ?_ ?_ ?zh ?zi ?zj ?zk ?zl ?zm ?_ ?_ ?_ ?_ ?_ ?_ ?_ ?_ ?_ ?_ ?_ ?_ ?_ ?_ ?_ ?_ ?_ ?_ ?_ ?_ ?_ ?_ ?_ ?_ ?_ ?_ ?_ ?_ ?yg ?yi ?yk ?yw ?yx ?yy ?yz ?x0 ?x1 ?x2 ?x3 ?x4 ?x5 ?x6 ?x7 ?x8 ?x9 ?xa ?xb ?xc ?xd ?xe ?xf ?xg ?xh ?xi ?xj ?xk ?xl ?xm ?xn ?xo ?xp ?xq ?xr ?xt ?xu ?xv ?xw ?xx ?xy ?xz ?v0 ?v1 ?v2 ?v3 ?v4 ?v5 ?v6 ?v7 ?v8 ?v9 ?va ?vb ?vc ?vd ?ve ?vf ?vg ?vh ?vi ?vj ?vk ?vl ?vm ?vn ?vo ?vp ?vq ?vr ?vt ?vu ?vv ?vw ?vx ?vy ?vz ?u0 ?u1 ?u2 ?u3 ?u4 ?u5 ?u6 ?u7 ?u8 ?u9 ?ua ?ub ?uc ?ud ?ue
  (case zh=>k_is)
  (case zi=>k_is)
  (case zj=>k_is)
  (case zk=>k_is)
  (case zl=>kernel_rfl)
  (case zm=>exact(PL.uJ T).trans (by kernel_rfl))
  (case yg=>k_is)
  (case yi=>k_is)
  (case yk=>k_is)
  (case yw=>k_is)
  (case yx=>k_is)
  (case yy=>k_is)
  (case yz=>k_is)
  (case x0=>k_is)
  (case x1=>k_is)
  (case x2=>k_is)
  (case x3=>k_is)
  (case x4=>k_is)
  (case x5=>k_is)
  (case x6=>k_is)
  (case x7=>k_is)
  (case x8=>k_exc)
  (case x9=>kernel_rfl)
  (case xa=>k_is)
  (case xb=>k_is)
  (case xc=>k_is)
  (case xd=>k_is)
  (case xe=>k_is)
  (case xf=>kit_is)
  (case xg=>kit_is)
  (case xh=>kit_is)
  (case xi=>kit_is)
  (case xj=>kit_is)
  (case xk=>kit_is)
  (case xl=>kit_is)
  (case xm=>kit_is)
  (case xn=>kit_is)
  (case xo=>kit_is)
  (case xp=>kit_is)
  (case xq=>kts_exm)
  (case xr=>kts_exm)
  (case xt=>k_exc)
  (case xu=>kernel_rfl)
  (case xv=>k_is)
  (case xw=>k_is)
  (case xx=>k_is)
  (case xy=>k_is)
  (case xz=>k_is)
  (case v0=>kit_is)
  (case v1=>kit_is)
  (case v2=>kit_is)
  (case v3=>kit_is)
  (case v4=>kit_is)
  (case v5=>kit_is)
  (case v6=>kit_is)
  (case v7=>kit_is)
  (case v8=>kit_is)
  (case v9=>kit_is)
  (case va=>kit_is)
  (case vb=>kts_exm)
  (case vc=>k_exc)
  (case vd=>kernel_rfl)
  (case ve=>k_is)
  (case vf=>k_is)
  (case vg=>k_is)
  (case vh=>k_is)
  (case vi=>k_is)
  (case vj=>kit_is)
  (case vk=>kit_is)
  (case vl=>kit_is)
  (case vm=>kit_is)
  (case vn=>kit_is)
  (case vo=>kit_is)
  (case vp=>kit_is)
  (case vq=>kit_is)
  (case vr=>kit_is)
  (case vt=>kit_is)
  (case vu=>kit_is)
  (case vv=>kts_exm)
  (case vw=>k_exc)
  (case vx=>kernel_rfl)
  (case vy=>k_is)
  (case vz=>k_is)
  (case u0=>k_is)
  (case u1=>k_is)
  (case u2=>k_is)
  (case u3=>kit_is)
  (case u4=>kit_is)
  (case u5=>kit_is)
  (case u6=>kit_is)
  (case u7=>kit_is)
  (case u8=>kit_is)
  (case u9=>kit_is)
  (case ua=>kit_is)
  (case ub=>kit_is)
  (case uc=>kit_is)
  (case ud=>kit_is)
  (case ue=>kts_exm)
  all_goals first |(refine' Nhk55.Mf ?_ ?_ ?_ ?_ <;> first |k_is |skip) |k_is
