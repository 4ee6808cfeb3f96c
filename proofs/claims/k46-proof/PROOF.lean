import PyProof.Rows.All
import KE.KLam
import KE.KNestM
import PyProof.OldK
import Wide.All
import OpenK.AllK
import Wide.FinOn
import Lean
import PyProof.EqAt
import PyProof.EqKinds
import PyProof.TupleCall
import KE.KRevIter
import PyProof.Rows.SeqMore
import PyProof.Rows.ListMulArg
import PyProof.ZipIter
import PyProof.Rows.ZipGen
import PyProof.EnumMake
import PyProof.StrWalks
import PyProof.SliceStr2
import PyProof.StrBlockH
import PyProof.FString5
import PyProof.Rows.StrJoin2
import PyProof.Rows.Range3
import KE.KDictLaws
import PyProof.ConsumeWalk
import PyProof.SumWalkG
import PyProof.Rows.SeqCalls
import PyProof.Rows.SeqGen
import PyProof.Rows.MinMaxN
import PyProof.Rows.CallKwBuiltin
import PyProof.Rows.SortStr
import PyProof.StrOps2
import PyProof.Rows.StrMul
import PyProof.IsRules
import PyProof.Rows.SetFrom
import PyProof.CollectStr
import PyProof.ToksMono
import PyProof.StrCalls6
import PyProof.StrCalls
import PyProof.Rows.StrNews
import PyProof.StrLawsOccR
import KE.KTryMore
import KE.KSortTup
import PyProof.StrOps
import PyProof.Rows.SortRuns
import PyProof.Rows.SortKey
import PyProof.RulesTry
import PyProof.StrLawsIn
import PyProof.StrLawsNeg
import PyProof.StrLawsTight
import PyProof.StrLawsChain
import KE.RegKIsAll
import KE.RegKTryMore
import PySem.Challenge.RW_nailhang_k46_rules_refused
set_option Elab.async false
set_option linter.all false
set_option maxRecDepth 100000
set_option maxHeartbeats 4000000
local macro_rules | `(tactic|omega) => `(tactic|lia)
noncomputable section
theorem Z0{α β:Type}(a:α)(f:α→Option β):(some a).bind f=f a:=rfl
theorem Z1{α β:Type}{x:α}{f:α→β}:(some x).map f=some (f x):=rfl
theorem Z2{α:Type}{a:α}{l:List α}:(a::l)[0]? =some a:=rfl
theorem Z3{α:Type}{a:α}{l:List α}{i}:(a::l)[i+1]? =l[i]? :=rfl
theorem Z4{α:Type}{a:α}{l:List α}:(a::l).length=l.length+1:=rfl
theorem Z5{α:Type}:([]:List α).length=0:=rfl
theorem Z6{α:Type}{a b:α}{l:List α}:(a::l).set 0 b=b::l:=rfl
theorem Z7{α:Type}{a b:α}{l:List α}{n}:(a::l).set (n+1) b=a::l.set n b:=rfl
theorem Z8{α:Type}{l:List α}:[]++l=l:=rfl
theorem Z9{α:Type}{a:α}{l m:List α}:a::l++m=a::(l++m):=rfl
def hW:=@And.intro _ _ @Bool.false_and <|And.intro @Bool.false_eq_true <|And.intro @if_true.{1} <|And.intro @if_false.{1} <|And.intro @Nat.zero_add <|And.intro @Bool.not_false <|And.intro @Bool.and_true <|And.intro @decide_true <|And.intro @decide_false <|And.intro @Bool.true_or <|And.intro @Bool.true_and @Bool.not_true
def Za:=@Option.bind_eq_some_iff
def eT:=@PySem.Heap.get?_push_of_some
def Zab:=@Option.map_eq_some_iff
def Zac:=@List.mem_singleton
def gW:=@List.mem_cons_of_mem
def fw:=@List.length_map
def Zaf:=@List.mem_append
def kf:=@List.mem_append_right
def eI:=@PySem.Heap.lt_size
def Zai:=@List.mem_cons
def eU:=@Nat.ne_of_lt
def jJ:=@List.mem_cons_self
def eD:=@Nat.le_refl
def kh:=@PySem.Heap.get?_push_size
def kT:=@Nat.lt_of_lt_of_le
def gI:=@List.map_cons
def oU:=@List.getElem?_eq_getElem
def mz:=@List.size_toArray
def Zar:=@List.getElem?_eq_some_iff
def oS:=@List.length_take
def p8:=@Bool.false_ne_true
def qY:=@List.length_append
def lL:=@Nat.le_trans
def qZ:=@Bool.and_eq_true
def BT:=@List.getElem?_append_right
def wR:=@List.mem_append_left
def Zaz:=@List.mem_map
def Zb:=@Nat.lt_succ_of_lt
def zF:=@PySem.Heap.get?_update_other
def BU:=@Nat.add_sub_cancel_left
def tJ:=@Int.emod_nonneg
def wS:=@Int.emod_lt_of_pos
def rk:=@PySem.Heap.size_push
def Zbf:=@Option.isSome_iff_exists
def wT:=@List.getElem?_map
def tL:=@List.append_nil
open PySem.W (instObj tabObj methodObj hideAll hideAll_get of_hideAll Frag nsIn lookIn findIn mroIn kitOne kia_one kitx_list kitx_dict keepIn callWith_K cellsFrom_some fnOf codeIn codeRec_of mg_of mg_none_of OpenLaw funFrames_hide excIn exmOne codeHdIn kla_fn codeHd_of_K kla_obj envX clsIn km_tabs_of)
local macro_rules | `(tactic|and_intros)=>`(tactic|exact⟨rfl,rfl,rfl,by decide+kernel,rfl,by decide+kernel,by decide+kernel⟩)
variable {α β:Type} {a C I T L ea CH c':PySem.Addr} {us its args:List PySem.Value} {o oe o':PySem.Obj} {P:PySem.Program} {h h' h2:PySem.Heap} {t' j tk k n ep:Nat} {ch fp:List PySem.Addr} {e c iter:PySem.Expr} {x qual q cn z:PySem.Str} {Q Qv:PySem.Value→PySem.Shared→Prop} {pos pos' p p2 cpos np hpos p1 p3:PySem.Pos} {pins:List (PySem.Addr×PySem.Obj)} {y lo:Int} {body:List PySem.Stmt} {fd:PySem.FuncData} {ps loose ks:List PySem.Str} {scope:PySem.Scope} {params:PySem.Arguments} {dV doc pm cdv oc a0:PySem.Value} {an:Option PySem.Addr} {osl:Array (Option PySem.Value)} {XP:(PySem.Str→Option PySem.Value)→PySem.Heap→Prop} {YP:PySem.World→PySem.Heap→Prop} {d:PySem.PyData} {st:PySem.Stmt} {js:List (Option Nat)} {es:Array (Int×PySem.Value)} {ds:List PySem.PyData} {m1 m m3 mk:Bool} {op':PySem.PyData→PySem.PyData→Option PySem.PyData} {U:List Nat} {W:List (List Nat)}
def zz0:=@PySem.wpAny_bind
def zz1:=@PySem.wpAny_pure
def zz2:=@PySem.wpAny_mono
def zz3:=@decide_eq_false
def zz4:=@decide_eq_true
def zz5:=@of_decide_eq_true
def zz6:=@PySem.wpAny_Call_Name_kw
def zz7:=@PySem.wpAny_holding
def zz8:=@Nat.lt_of_le_of_lt
def zz9:=@Nat.zero_le
def zzA:=@Nat.add_lt_add_left
def zzB:=@Nat.lt_of_le_of_ne
def zzC:=@Nat.lt_succ_self
def zzD:=@Nat.add_le_add_left
namespace L2
open PySem PySem.Spec PyProof.Rows
abbrev iQ:=Sum Int Str
def DO:iQ→Value→Bool
 |.inl k,v=>Value.isInt k v
 |.inr x,v=>Value.isStrOf x v
def Ii(w:World):iQ→Int
 |.inl k=>hashInt k
 |.inr x=>hashStr w x
theorem cr:∀{k:iQ} {v:Value},DO k v=true→(∃i t,k=Sum.inl i∧v=Value.int i t)∨(∃x t,k=Sum.inr x∧v=Value.str x t)
 |.inl i,v,h=>by
  obtain⟨t,e⟩:=Value.isInt_shape (k:=i) (v:=v) h
  exact .inl ⟨i,t,rfl,e⟩
 |.inr x,v,h=>by
  obtain⟨t,e⟩:=Value.isStrOf_shape (x:=x) (v:=v) h
  exact .inr ⟨x,t,rfl,e⟩
theorem Eh(a b:Int):decide ((Sum.inl a:iQ)=Sum.inl b)=(a == b):=by
 by_cases e:a=b
 ·subst e;simp
 ·have h:¬(Sum.inl a:iQ)=Sum.inl b:=fun q=>e (Sum.inl.inj q)
  rw[zz3 h]
  exact(beq_eq_false_iff_ne.mpr e).symm
theorem Ek(a b:Str):decide ((Sum.inr a:iQ)=Sum.inr b)=decide (a=b):=by
 by_cases e:a=b
 ·subst e;simp
 ·have h:¬(Sum.inr a:iQ)=Sum.inr b:=fun q=>e (Sum.inr.inj q)
  rw[zz3 h,zz3 e]
theorem El(a:Int)(b:Str):decide ((Sum.inl a:iQ)=Sum.inr b)=false:=zz3 (fun q=>nomatch q)
theorem Em(a:Str)(b:Int):decide ((Sum.inr a:iQ)=Sum.inl b)=false:=zz3 (fun q=>nomatch q)
def mZ(prog:Program)(w:World):PySem.KeyKind prog w iQ where
 is:=DO
 hash:=Ii w
 inj:=fun v a b ha hb=>by
  rcases cr ha with⟨i,t,rfl,rfl⟩ |⟨x,t,rfl,rfl⟩
  ·rcases cr hb with⟨j,u,rfl,e⟩ |⟨y,u,rfl,e⟩
   ·injection e with e1 _;rw[e1]
   ·exact nomatch e
  ·rcases cr hb with⟨j,u,rfl,e⟩ |⟨y,u,rfl,e⟩
   ·exact nomatch e
   ·injection e with e1 _;rw[e1]
 byValue:=fun k v h=>by
  rcases cr h with⟨i,t,rfl,rfl⟩ |⟨x,t,rfl,rfl⟩ <;> rfl
 pyHash:=fun hv h=>by
  rcases cr hv with⟨i,t,rfl,rfl⟩ |⟨x,t,rfl,rfl⟩
  ·exact wpAny_pyHash_int h
  ·exact wpAny_pyHash_str h
 eqBool:=fun hu hv h=>by
  rcases cr hu with⟨i,t,rfl,rfl⟩ |⟨x,t,rfl,rfl⟩
  ·rcases cr hv with⟨j,u,rfl,rfl⟩ |⟨y,u,rfl,rfl⟩
   ·rw[Eh]at h;exact wpAny_eqBool_int h
   ·rw[El]at h;exact SeqAt.EqAt.int_str i t y u _ _ _ _ h
  ·rcases cr hv with⟨j,u,rfl,rfl⟩ |⟨y,u,rfl,rfl⟩
   ·rw[Em]at h;exact SeqAt.EqAt.str_int x t j u _ _ _ _ h
   ·rw[Ek]at h;exact wpAny_eqBool_str h
 «strs»:=fun k x t v h=>by
  rcases cr h with⟨i,u,rfl,e⟩ |⟨y,u,rfl,e⟩
  ·exact nomatch e
  ·injection e with e1 _
   subst e1
   cases v <;> rfl
end L2
namespace L2
open PySem PySem.Spec PyProof.Rows
inductive V where
 |non |bl (b:Bool) |int (i:Int) |str (x:Str) |byt (b:Array UInt8) |flt (b:UInt64) |ref (a:Addr) |ty (n:String)
 deriving DecidableEq
def RelV:V→Value→Prop
 |.non,u=>u=Value.none
 |.bl b,u=>u=Value.bool b
 |.int i,u=>∃t,u=Value.int i t
 |.str x,u=>∃t,u=Value.str x t
 |.byt b,u=>∃t,u=Value.bytes b t
 |.flt b,u=>∃t,u=Value.float b t
 |.ref a,u=>u=Value.ref a
 |.ty n,u=>u=Value.type n
abbrev Vals:List V→List Value→Prop:=Paired RelV
theorem Vals.length{xs:List V}(r:Vals xs us):xs.length=us.length:=Paired.length r
theorem Vals.get:∀{xs:List V} {us:List Value} {i:Nat} {x:V},Vals xs us→xs[i]? =some x→∃u,us[i]? =some u∧RelV x u
 |_,_,_,_,.nil,e=>by simp at e
 |_,_,0,_,.cons r _,e=>by simp at e;subst e;exact⟨_,rfl,r⟩
 |_,_,i+1,x,.cons _ t,e=>by
  obtain⟨u,h1,h2⟩:=Vals.get (i:=i) (x:=x) t (by simpa using e)
  exact⟨u,by simpa using h1,h2⟩
theorem Vals.append:∀{xs ys:List V} {us ws:List Value},Vals xs us→Vals ys ws→Vals (xs++ys) (us++ws)
 |_,_,_,_,.nil,s=>s
 |_,_,_,_,.cons r t,s=>.cons r (Vals.append t s)
theorem Vals.take:∀{xs:List V} {us:List Value} (n:Nat),Vals xs us→Vals (xs.take n) (us.take n)
 |_,_,0,_=>.nil
 |_,_,_+1,.nil=>.nil
 |_,_,n+1,.cons r t=>.cons r (Vals.take n t)
theorem Vals.drop:∀{xs:List V} {us:List Value} (n:Nat),Vals xs us→Vals (xs.drop n) (us.drop n)
 |_,_,0,r=>r
 |_,_,_+1,.nil=>.nil
 |_,_,n+1,.cons _ t=>Vals.drop n t
def En:Option V→Option Value→Prop
 |some v,some u=>RelV v u
 |none,none=>True
 |_,_=>False
def KV{κ:Type}:List (κ×V)→List (κ×Value)→Prop:=Paired fun(p:κ×V) (q:κ×Value)=>p.1=q.1∧RelV p.2 q.2
def kV:iQ→V
 |.inl i=>.int i
 |.inr x=>.str x
inductive HO where
 /-- a list -/
 |lst (xs:List V)
 /-- a tuple (never changes) -/
 |tup (xs:List V)
 /-- a dict whose keys are ints and texts;one whose keys are tuples of ints and texts (the empty one is both) -/
 |dK (kvs:List (iQ×V)) |dT (kvs:List (List iQ×V))
 /-- a set of ints:its members,its size -/
 |set (S:Int→Bool) (n:Nat)
 /-- an instance of the class at C,its dict at dx,its attributes -/
 |ins (C dx:Addr) (fs:List (Str×V))
 /-- the dict of the instance at x -/
 |own (x:Addr)
 /-- the dict of an exception -/
 |xd (fs:List (Str×V))
 /-- a bound method,f of x -/
 |met (f x:Addr)
 /-- a range object lo,lo+1,.. below hi -/
 |rng (lo hi:Int)
 /-- a thing that is known to the object (the script;a dict while a loop walks it):read,never written while it is so -/
 |frz (o:Obj) (u:HO)
 /-- a code object's table -/
 |tbl (q:Str)
 /-- any other thing,by what is true of its one object (a def of one's own:SetO a S n:=HO.ext fun h=> ..) -/
 |ext (φ:Heap→Prop)
abbrev Hp:=Addr→Option HO
def upd(H:Hp)(a:Addr)(o:HO):Hp:=fun b=>if b=a then some o else H b
theorem upd_same{H:Hp}{o:HO}:upd H a o a=some o:=by unfold upd;rw[if_pos rfl]
theorem aF{H:Hp}{b:Addr}{o:HO}(h:b≠a):upd H a o b=H b:=by unfold upd;rw[if_neg h]
theorem bu{H:Hp}{b:Addr}{o:HO}(h:H a=some o)(h':H b=none):a≠b:=by
 intro e;subst e;rw[h]at h';cases h'
section
variable (P:Program) (w:World)
def ObjOk(H:Hp)(h:Heap)(a:Addr):HO→Prop
 |.lst xs=>xs.length≤sizeLine∧∃(its:List Value) (n:Nat),Vals xs its∧h.get? a=some {cls:=.type "list",data:=.seq its.toArray n}
 |.tup xs=>xs.length≤sizeLine∧∃its:List Value,Vals xs its∧IsTup h a its.toArray
 |.dK kvs=>kvs.length≤sizeLine∧(a == sysModules)=false∧∃vs,KV kvs vs∧h.DictOf (mZ P w) a vs
 |.dT kvs=>kvs.length≤sizeLine∧(a == sysModules)=false∧∃xs:List (List iQ×Addr×Value),
   Paired (fun(p:List iQ×V) (q:List iQ×Addr×Value)=>p.1=q.1∧H q.2.1=some (.tup (p.1.map kV))∧RelV p.2 q.2.2) kvs xs∧
   ∃o es ep,h.get? a=some o∧o.ExactDict∧o.data=.dict es ep∧es.toList=xs.map (entryOfKey (tupleKind (mZ P w)))∧(xs.map (·.1)).Nodup
 |.set S n=>h.SetOf (intKind P w) a S n
 |.ins C dx fs=>H dx=some (.own a)∧fs.length≤1000∧dx≠a∧h.get? a=some (instObj C dx)∧
   ∃mA,h.Ns1 dx mA∧(∀f,En (fs.lookup f) (mA f))∧PySem.Within mA (fs.map (·.1))
 |.own _=>∃o,h.get? a=some o
 |.xd fs=>∃mA,h.Ns1 a mA∧∀f,En (fs.lookup f) (mA f)
 |.rng lo hi=>∃t u v,h.get? a=some {cls:=.type "range",data:=.fields #[.int lo t,.int hi u,.int 1 v]}
 |.frz o u=>h.get? a=some o∧ObjOk H h a u
 |.tbl q=>∃ps:Array Value,h.get? a=some (tabObj ps)∧TriplesOk ps.toList∧∀pos cv,codeAmong pos ps.toList=some cv→∃c,cv=Value.ref c∧H c=some (.own a)∧h.CodeRec cv q
 |.met f x=>h.get? a=some (methodObj (.ref f) (.ref x))
 |.ext φ=>φ h∧(∃o,h.get? a=some o)∧∀h1 h2:Heap,φ h1→(∀o,h1.get? a=some o→h2.get? a=some o)→φ h2
def HOk(H:Hp)(h:Heap):Prop:=∀a o,H a=some o→ObjOk P w H h a o
end
section
variable {P:Program} {w:World} {H H':Hp} {h h':Heap} {a:Addr} {o:HO}
theorem ObjOk.lt(x:ObjOk P w H h a o):a < h.objs.size:=by
 cases o with
 |lst xs=>obtain⟨_,_,_,_,e⟩:=x;exact eI e
 |tup xs=>obtain⟨_,_,_,p⟩:=x;exact p.lt
 |dK kvs=>obtain⟨_,_,_,_,o,_,_,e,_⟩:=x;exact eI e
 |dT kvs=>obtain⟨_,_,_,_,o,_,_,e,_⟩:=x;exact eI e
 |set S n=>obtain⟨o,_,_,_,e,_⟩:=x;exact eI e
 |ins C dx fs=>obtain⟨_,_,_,e,_⟩:=x;exact eI e
 |own y=>obtain⟨_,e⟩:=x;exact eI e
 |xd fs=>obtain⟨_,⟨_,_,_,e,_⟩,_⟩:=x;exact eI e
 |rng lo hi=>obtain⟨_,_,_,e⟩:=x;exact eI e
 |frz ob u=>obtain⟨e,_⟩:=x;exact eI e
 |tbl q=>obtain⟨_,e,_⟩:=x;exact eI e
 |met f y=>exact eI (show h.get? a=some _ from x)
 |ext φ=>obtain⟨_,⟨_,e⟩,_⟩:=x;exact eI e
theorem Paired.mapP{F G:α→β→Prop}{l₁:List α}{l₂:List β}(h:Paired F l₁ l₂)(f:∀a b,F a b→G a b):Paired G l₁ l₂:=by
 induction h with
 |nil=>exact .nil
 |cons r _ t=>exact .cons (f _ _ r) t
theorem ObjOk.stay(x:ObjOk P w H h a o)(k:∀b u,(b=a∨H b=some (.own a))→h.get? b=some u→h'.get? b=some u)
  (ho:∀b,H b=some (.own a)→H' b=some (.own a)) (ht:∀b xs,H b=some (.tup xs)→H' b=some (.tup xs)):ObjOk P w H' h' a o:=by
 induction o with
 |lst xs=>obtain⟨z,its,n,r,e⟩:=x;exact⟨z,its,n,r,k _ _ (.inl rfl) e⟩
 |tup xs=>obtain⟨z,its,r,ob,e,c⟩:=x;exact⟨z,its,r,ob,k _ _ (.inl rfl) e,c⟩
 |dK kvs=>obtain⟨z,y,vs,r,ob,es,ep,e,c⟩:=x;exact⟨z,y,vs,r,ob,es,ep,k _ _ (.inl rfl) e,c⟩
 |dT kvs=>
  obtain⟨z,y,xs,r,ob,es,ep,e,c⟩:=x
  exact⟨z,y,xs,Paired.mapP r fun p q z=>⟨z.1,ht _ _ z.2.1,z.2.2⟩,ob,es,ep,k _ _ (.inl rfl) e,c⟩
 |set S n=>obtain⟨ob,es,ep,t,e,c⟩:=x;exact⟨ob,es,ep,t,k _ _ (.inl rfl) e,c⟩
 |ins C dx fs=>
  obtain⟨d,z,ne,e,mA,⟨od,es,ep,e2,c⟩,r⟩:=x
  exact⟨ho _ d,z,ne,k _ _ (.inl rfl) e,mA,⟨od,es,ep,k _ _ (.inr d) e2,c⟩,r⟩
 |own y=>obtain⟨ob,e⟩:=x;exact⟨ob,k _ _ (.inl rfl) e⟩
 |xd fs=>obtain⟨mA,⟨od,es,ep,e,c⟩,r⟩:=x;exact⟨mA,⟨od,es,ep,k _ _ (.inl rfl) e,c⟩,r⟩
 |rng lo hi=>obtain⟨t,u,v,e⟩:=x;exact⟨t,u,v,k _ _ (.inl rfl) e⟩
 |frz ob u ih=>obtain⟨e,q⟩:=x;exact⟨k _ _ (.inl rfl) e,ih q⟩
 |tbl q=>
  obtain⟨ps,e,t,r⟩:=x
  refine⟨ps,k _ _ (.inl rfl) e,t,fun pos cv z=>?_⟩
  obtain⟨c,ec,ho',c2,oc,vs,tq,hc,hoc,hd⟩:=r pos cv z
  subst ec
  cases hc
  exact⟨c,rfl,ho _ ho',c,oc,vs,tq,rfl,k _ _ (.inr ho') hoc,hd⟩
 |met f y=>
  have e:h.get? a=some (methodObj (.ref f) (.ref y)):=x
  show h'.get? a=some (methodObj (.ref f) (.ref y))
  exact k a _ (.inl rfl) e
 |ext φ=>obtain⟨p,⟨o,e⟩,st⟩:=x;exact⟨st _ _ p fun o q=>k _ _ (.inl rfl) q,⟨o,k _ _ (.inl rfl) e⟩,st⟩
theorem HOk.lt(x:HOk P w H h)(e:H a=some o):a < h.objs.size:=(x a o e).lt
theorem HOk.fresh(x:HOk P w H h)(e:h.objs.size≤a):H a=none:=by
 cases q:H a with
 |none=>rfl
 |some u=>exact absurd (kT (x.lt q) e) (Nat.lt_irrefl _)
theorem HOk.kept(x:HOk P w H h)(k:∀b u,h.get? b=some u→h'.get? b=some u):HOk P w H h':=fun a o e=>
 (x a o e).stay (fun b u _ q=>k b u q) (fun _ q=>q) fun _ _ q=>q
theorem HOk.laid(x:HOk P w H h)(k:∀b u,h.get? b=some u→h'.get? b=some u)(hp:h.objs.size≤a)(new:ObjOk P w (upd H a o) h' a o):HOk P w (upd H a o) h':=fun b u e=>by
 have hn:=x.fresh hp
 by_cases hb:b=a
 ·subst hb;rw[upd_same]at e;cases e;exact new
 ·rw[aF hb]at e
  exact(x b u e).stay (fun c v _ q=>k c v q) (fun c q=>by rw[aF (bu q hn)];exact q) fun c xs q=>by rw[aF (bu q hn)];exact q
end
def Rd(H:Hp)(a:Addr)(u:HO):Prop:=H a=some u∨∃o,H a=some (.frz o u)
theorem Rd.ok{w:World}{H:Hp}{u:HO}(r:Rd H a u)(x:HOk P w H h):ObjOk P w H h a u:=by
 rcases r with r |⟨o,r⟩
 ·exact x a u r
 ·obtain⟨_,q⟩:=x a _ r
  exact q
def HY:Option HO→Prop
 |some (.lst _)=>True
 |some (.dK _)=>True
 |some (.dT _)=>True
 |some (.set _ _)=>True
 |some (.ins _ _ _)=>True
 |some (.ext _)=>True
 |_=>False
section
variable {P:Program} {w:World} {H:Hp} {h h':Heap} {x e:Addr} {o':HO}
theorem HOk.write(ok:HOk P w H h)(mu:HY (H x))(he:e=x∨H e=some (.own x))(k:∀b u,b≠e→h.get? b=some u→h'.get? b=some u)(heo:∃u,h'.get? e=some u)
  (new:ObjOk P w (upd H x o') h' x o'):HOk P w (upd H x o') h':=fun b u q=>by
 have nown:∀c y,H c=some (.own y)→c≠x:=fun c y r z=>by subst z;rw[r]at mu;exact mu
 have ntup:∀c xs,H c=some (.tup xs)→c≠x:=fun c xs r z=>by subst z;rw[r]at mu;exact mu
 by_cases hb:b=x
 ·subst hb;rw[upd_same]at q;cases q;exact new
 ·rw[aF hb]at q
  by_cases hbe:b=e
  ·have q':H b=some (.own x):=by
    rcases he with z |z
    ·exact absurd (hbe.trans z) hb
    ·rw[hbe];exact z
   rw[q]at q';cases q'
   obtain⟨v,hv⟩:=heo
   exact⟨v,by rw[hbe];exact hv⟩
  ·refine(ok b u q).stay (fun c v hc r=>k c v ?_ r) (fun c r=>by rw[aF (nown c b r)];exact r) fun c xs r=>by rw[aF (ntup c xs r)];exact r
   rcases hc with rfl |hc
   ·exact hbe
   ·rintro rfl
    rcases he with z |z
    ·exact nown c b hc z
    ·rw[hc]at z;cases z;exact hb rfl
end
structure Un (fs ex:List Addr) (H H':Hp) (h h':Heap):Prop where
 keep:∀b o,h.get? b=some o→H b=none→b∉fs→b∉ex→h'.get? b=some o
 slot:∀b o,h.get? b=some o→H b=none→b∈fs→b∉ex→∃sl,h'.get? b=some {o with slots:=sl}
 free:∀b o,h.get? b=some o→H b=none→b∉ex→H' b=none
 there:∀b o,h.get? b=some o→b∉ex→∃o',h'.get? b=some o'
 tups:∀b xs,H b=some (.tup xs)→H' b=some (.tup xs)
 frzs:∀b o u,H b=some (.frz o u)→H' b=some (.frz o u)
 tbls:∀b ps,H b=some (.tbl ps)→H' b=some (.tbl ps)
section
variable {fs fs' ex ex':List Addr} {H H1 H2:Hp} {h h1 h2 h':Heap} {a x e:Addr} {o:HO}
theorem Un.any(u:Un fs ex H H1 h h1){b:Addr}{ob:Obj}(q:h.get? b=some ob)(n:H b=none)(hx:b∉ex):∃sl,h1.get? b=some {ob with slots:=sl}:=by
 by_cases hb:b∈fs
 ·exact u.slot b ob q n hb hx
 ·exact⟨ob.slots,u.keep b ob q n hb hx⟩
theorem Un.kept(k:∀b u,h.get? b=some u→h'.get? b=some u):Un fs ex H H h h':=
 ⟨fun b ob q _ _ _=>k b ob q,fun b ob q _ _ _=>⟨ob.slots,k b ob q⟩,fun _ _ _ n _=>n,fun b ob q _=>⟨ob,k b ob q⟩,fun _ _ q=>q,fun _ _ _ q=>q,fun _ _ q=>q⟩
theorem Un.refl:Un fs ex H H h h:=Un.kept fun _ _ q=>q
theorem Un.laid(k:∀b u,h.get? b=some u→h'.get? b=some u)(hp:h.objs.size≤a)(hn:H a=none):Un fs ex H (upd H a o) h h' where
 keep:=fun b u q _ _ _=>k b u q
 slot:=fun b u q _ _ _=>⟨u.slots,k b u q⟩
 free:=fun b u q n _=>by rw[aF (eU (kT (eI q) hp))];exact n
 there:=fun b u q _=>⟨u,k b u q⟩
 tups:=fun b xs q=>by rw[aF (bu q hn)];exact q
 frzs:=fun b u xs q=>by rw[aF (bu q hn)];exact q
 tbls:=fun b ps q=>by rw[aF (bu q hn)];exact q
theorem Un.write(mu:HY (H x))(he:e=x∨H e=some (.own x))(k:∀b u,b≠e→h.get? b=some u→h'.get? b=some u)(heo:∃u,h'.get? e=some u):Un fs ex H (upd H x o) h h':=by
 have hx:∀b,H b=none→b≠x:=fun b n z=>by subst z;rw[n]at mu;exact mu
 have hb:∀b,H b=none→b≠e:=fun b n z=>by
  subst z
  rcases he with r |r
  ·exact hx b n r
  ·rw[n]at r;cases r
 have hm:∀b u,H b=some u→¬HY (some u)→b≠x:=fun b u q nm z=>by subst z;rw[q]at mu;exact nm mu
 refine⟨fun b u q n _ _=>k b u (hb b n) q,fun b u q n _ _=>⟨u.slots,k b u (hb b n) q⟩,fun b u q n _=>by rw[aF (hx b n)];exact n,fun b u q _=>?_,
  fun b xs q=>by rw[aF (hm b _ q fun z=>z)];exact q,fun b u xs q=>by rw[aF (hm b _ q fun z=>z)];exact q,fun b ps q=>by rw[aF (hm b _ q fun z=>z)];exact q⟩
 by_cases hbe:b=e
 ·subst hbe;exact heo
 ·exact⟨u,k b u hbe q⟩
end
def HZ(h:Heap)(H:Hp):List Addr:=(List.range h.objs.size).filter fun a=>(H a).isSome
def rl(h:Heap)(H:Hp):Heap:=hideAll h (HZ h H)
theorem wU(h:Heap)(H:Hp):(rl h H).objs.size=h.objs.size:=PySem.W.hideAll_size _ _
theorem nq{H:Hp}{b:Addr}(e:h.get? b=some o)(n:H b=none):(rl h H).get? b=some o:=
 hideAll_get _ e fun hm=>by
  have q:(H b).isSome=true:=(List.mem_filter.mp hm).2
  rw[n]at q;simp at q
theorem BZ{H:Hp}{b:Addr}(e:(rl h H).get? b=some o):h.get? b=some o∧H b=none:=by
 have e':h.get? b=some o:=of_hideAll (HZ h H) e
 refine⟨e',?_⟩
 cases q:H b with
 |none=>rfl
 |some x=>
  have hm:b∈HZ h H:=List.mem_filter.mpr ⟨List.mem_range.mpr (eI e'),by simp[q]⟩
  have z:(rl h H).get? b=none:=PySem.W.hideAll_none (HZ h H) hm
  rw[z]at e;cases e
def B3(g h:Heap)(L:Addr):List (Addr×Obj):=(List.range h.objs.size).filterMap fun a=>if a=L∨(g.get? a).isSome=true then none else (h.get? a).map fun o=>(a,o)
def dO(g h:Heap)(L d:Addr):List (Addr×Obj):=(B3 g h L).filter fun p=>decide (p.1≠d)
end L2
variable {xs vs:List L2.V} {H H' F B' Hf:L2.Hp} {v v1 v2:L2.V} {so:Option L2.HO}
namespace L2
open PySem PySem.Spec PyProof.Rows
def vL(K:Frag)(n:Str):Option Addr:=match nsIn K mainGlobals n with
 |some (some (.ref f))=>match K.lookup f with
  |some ⟨_,_,.func fd,_⟩=>match fd.code with
   |.ref c=>match K.lookup c with
    |some ⟨_,_,.fields vs,_⟩=>match (vs[11]? :Option Value)with
     |some (.ref P)=>some P
     |_=>none
    |_=>none
   |_=>none
  |_=>none
 |_=>none
def pf:List (Str×Str):=[("in_told_order","in_told_order.<locals>.<lambda>"),("_law_two_refused","_law_two_refused.<locals>.<lambda>"),("_law_at_least_refused","_law_at_least_refused.<locals>.<lambda>"),("law","law.<locals>.<lambda>")]
def B4(K:Frag)(b:Addr):List (Str×Str)→Option Str
 |[]=>none
 |n::r=>if vL K n.1=some b then some n.2 else B4 K b r
def hZ(K:Frag)(b:Addr):Option Str:=B4 K b pf
structure Mod (K:Frag) (mg:Str→Option Value) (base:Heap):Prop where
 kin:K.In base
 glob:base.Ns mainGlobals mg
 blt:∃mb,base.Ns builtinsNs mb∧∀x:Str,x≠"__name__"→mb x=bootBuiltins x
 nolimit:base.NoLimit
 bmain:∃bm ob,mg "__builtins__"=some (.ref bm)∧bm≠builtinsNs∧base.get? bm=some ob∧ob.cls=.type "module"∧ob.dict=some builtinsNs∧ob.data=.plain
structure Cx where
 prog:Program
 w:World
 K:Frag
 mg:Str→Option Value
 base:Heap
 A:Around
 N:List Str
 s₀:Shared
 H₀:Hp
 env:Env
 outer:List Env
 stack:List Env
 ex:List Addr
 fn:Str→Bool
 calm:Bool
 pn:List (Addr×Obj)
 xe:Value→Shared→Prop
def gb(l:List Env):List Addr:=l.filterMap (·.frame)
abbrev Cx.fs(X:Cx):List Addr:=gb X.outer
def Eo(sc:Scope)(x:Str):Prop:=sc.names.lookup x=some .local∨sc.names.lookup x=some .cell∨sc.names.lookup x=some .free
def Ep(sc:Scope)(x:Str):Prop:=sc.names.lookup x=some .local∨sc.names.lookup x=some .cell
def Ij(env:Env)(h:Heap)(m:Str→Option Value)(x:Str)(u:Value):Prop:=
 (env.kindOf x=some .local∧m x=some u)∨((env.kindOf x=some .cell∨env.kindOf x=some .free)∧∃c,env.cells.lookup x=some c∧h.IsCell c (some u))
structure Cx.Ok (X:Cx):Prop where
 mod:Mod X.K X.mg X.base
 kind:X.env.scope.kind=.function
 glob:X.env.globals=mainGlobals
 blt:X.env.builtins=builtinsNs
 above:X.s₀.heap.objs.size≤X.env.locals
 inj:∀x y c,X.env.cells.lookup x=some c→X.env.cells.lookup y=some c→x=y
 has:∀x,(X.env.kindOf x=some .cell∨X.env.kindOf x=some .free)→∃c,X.env.cells.lookup x=some c
 cab:∀x c,X.fn x=true→X.env.cells.lookup x=some c→X.s₀.heap.objs.size≤c
 hd:X.calm=true→X.A.handled=none
 frames:X.A.frames=some X.stack
 stk:X.stack=X.outer∨(X.stack=X.env::X.outer∧X.env.frame=some X.env.locals)
 exf:∀b∈X.ex,b≠X.env.locals∧∀x c,X.env.cells.lookup x=some c→c≠b
 bs:∀b o,X.base.get? b=some o→X.s₀.heap.get? b=some o∧X.H₀ b=none
 bsz:X.base.objs.size≤X.s₀.heap.objs.size
 noex:∀b o,X.base.get? b=some o→b∉X.ex
 exfs:∀b∈X.ex,b∉X.fs
 funs:X.s₀.heap.FunFrames X.base X.outer
 frf:∀b∈X.fs,X.H₀ b=none
 tab:∀b q,hZ X.K b=some q→X.H₀ b=some (.tbl q)
structure Inv (X:Cx) (pins:List (Addr×Obj)) (σ:List (Option V)) (H:Hp) (s:Shared):Prop where
 ok:X.Ok
 os:s.os=X.s₀.os
 bare:AllBare s.gens
 base:Un X.fs X.ex X.H₀ H X.s₀.heap s.heap
 loc:∃m,s.heap.Ns X.env.locals m∧∀(i:Nat) (x:Str) (v:V),X.N[i]? =some x→σ[i]? =some (some v)→Eo X.env.scope x→∃u,RelV v u∧Ij X.env s.heap m x u
 cell:∀x c,X.env.cells.lookup x=some c→∃v,s.heap.IsCell c v
 free:H X.env.locals=none
 freeC:∀x c,X.env.cells.lookup x=some c→H c=none
 pin:∀p∈X.pn++pins,s.heap.get? p.1=some p.2∧H p.1=none∧p.1≠X.env.locals∧p.1∉X.fs∧∀v,p.2.data≠ .cell v
 hok:HOk X.prog X.w H s.heap
 len:σ.length=X.N.length
section
variable {X:Cx} {pins:List (Addr×Obj)} {σ:List (Option V)} {H H':Hp} {s:Shared} {h':Heap}
theorem Cx.Ok.nofr(ok:X.Ok){b:Addr}(e:X.base.get? b=some o):b∉X.fs:=fun hb=>by
 have:=(ok.funs.mem hb).1
 rw[e]at this;cases this
theorem Inv.bs(I:Inv X pins σ H s):∀b o,X.base.get? b=some o→s.heap.get? b=some o∧H b=none:=fun b o e=>
 ⟨I.base.keep b o (I.ok.bs b o e).1 (I.ok.bs b o e).2 (I.ok.nofr e) (I.ok.noex b o e),I.base.free b o (I.ok.bs b o e).1 (I.ok.bs b o e).2 (I.ok.noex b o e)⟩
theorem Inv.bk(I:Inv X pins σ H s):∀b o,X.base.get? b=some o→s.heap.get? b=some o:=fun b o e=>(I.bs b o e).1
theorem Inv.mod(I:Inv X pins σ H s):Mod X.K X.mg X.base:=I.ok.mod
theorem Inv.tab(I:Inv X pins σ H s):∀b q,hZ X.K b=some q→H b=some (.tbl q):=fun b q e=>I.base.tbls b q (I.ok.tab b q e)
theorem Inv.kIn(I:Inv X pins σ H s):X.K.In s.heap:=I.ok.mod.kin.keeps I.bk
theorem Inv.nolimit(I:Inv X pins σ H s):s.heap.NoLimit:=I.ok.mod.nolimit.keeps I.bk
theorem Inv.lt(I:Inv X pins σ H s):X.env.locals < s.heap.objs.size:=let ⟨_,hn,_⟩:=I.loc;hn.lt
theorem Inv.sz(I:Inv X pins σ H s):X.s₀.heap.objs.size≤s.heap.objs.size:=lL I.ok.above (Nat.le_of_lt I.lt)
theorem Inv.nofs(I:Inv X pins σ H s)(h:s.heap.objs.size≤a):a∉X.fs:=fun hb=>by
 obtain⟨_,o,ho,_⟩:=I.ok.funs.mem hb
 exact absurd (kT (eI ho) (lL I.sz h)) (Nat.lt_irrefl _)
theorem Inv.cne(I:Inv X pins σ H s):∀x c,X.env.cells.lookup x=some c→c≠X.env.locals:=fun x c e z=>by
 obtain⟨v,o,ho,hd⟩:=I.cell x c e
 obtain⟨m,⟨o',es,ep,ho',hd',_⟩,_⟩:=I.loc
 rw[z,ho']at ho;cases ho;rw[hd']at hd;cases hd
theorem Inv.funs(I:Inv X pins σ H s):s.heap.FunFrames X.base X.outer:=by
 have all:∀(l:List Env),(∀b∈gb l,b∈X.fs)→X.s₀.heap.FunFrames X.base l→s.heap.FunFrames X.base l:=by
  intro l
  induction l with
  |nil=>intro _ _;trivial
  |cons env r ih=>
   intro hs hl
   obtain⟨hk,⟨L,o,hf,hn,ho,hd⟩,hr⟩:=hl
   have hL:L∈X.fs:=hs L (by unfold gb;rw[List.filterMap_cons,hf];exact jJ)
   obtain⟨sl,e⟩:=I.base.slot L o ho (I.ok.frf L hL) hL fun z=>I.ok.exfs L z hL
   exact⟨hk,⟨L,_,hf,hn,e,hd⟩,ih (fun b hb=>hs b (by unfold gb;rw[List.filterMap_cons,hf];exact gW _ hb)) hr⟩
 exact all X.outer (fun _ hb=>hb) I.ok.funs
theorem Inv.stack(I:Inv X pins σ H s):s.heap.FunFrames X.base X.stack:=by
 rcases I.ok.stk with e |⟨e,hf⟩
 ·rw[e];exact I.funs
 ·rw[e]
  obtain⟨m,hn,_⟩:=I.loc
  refine .cons (by rw[I.ok.kind];decide) hf hn ?_ I.funs
  exact Heap.get?_none_of_le (lL I.ok.bsz I.ok.above)
theorem Inv.stkSub(I:Inv X pins σ H s):∀b∈gb X.stack,b∈X.env.locals::X.fs:=fun b hb=>by
 rcases I.ok.stk with e |⟨e,hf⟩
 ·rw[e]at hb;exact gW _ hb
 ·rw[e]at hb
  unfold gb at hb
  rw[List.filterMap_cons,hf]at hb
  exact hb
theorem Inv.stkFree(I:Inv X pins σ H s):∀b∈gb X.stack,H b=none:=fun b hb=>by
 rcases Zai.mp (I.stkSub b hb)with e |hb
 ·rw[e];exact I.free
 ·obtain⟨_,o,ho,_⟩:=I.ok.funs.mem hb
  exact I.base.free b o ho (I.ok.frf b hb) fun z=>I.ok.exfs b z hb
theorem Inv.step{g':Array GenState}{d':Drawn}(I:Inv X pins σ H s)
  (hch:∀b∈ch,(b∈X.ex∨X.s₀.heap.objs.size≤b)∧b≠X.env.locals∧(∀x c,X.env.cells.lookup x=some c→c≠b)∧∀p∈X.pn++pins,p.1≠b)
  (keep:∀b o,b≠X.env.locals→b∉X.fs→b∉ch→s.heap.get? b=some o→H b=none→h'.get? b=some o)
  (slot:∀b o,b≠X.env.locals→b∈X.fs→b∉ch→s.heap.get? b=some o→H b=none→∃sl,h'.get? b=some {o with slots:=sl}) (free:∀b o,b∉ch→s.heap.get? b=some o→H b=none→H' b=none)
  (there:∀b o,b∉ch→s.heap.get? b=some o→∃o',h'.get? b=some o')
  (tups:∀b xs,H b=some (.tup xs)→H' b=some (.tup xs)) (frzs:∀b o u,H b=some (.frz o u)→H' b=some (.frz o u)) (tbls:∀b ps,H b=some (.tbl ps)→H' b=some (.tbl ps))
  (ns:∀m,s.heap.Ns X.env.locals m→h'.Ns X.env.locals m) (hok:HOk X.prog X.w H' h') (hg:AllBare g'):
  Inv X pins σ H' {s with heap:=h',gens:=g',drawn:=d',toks:=t'}:=by
 have neL:∀b o,X.s₀.heap.get? b=some o→b≠X.env.locals:=fun b o e=>eU (kT (eI e) I.ok.above)
 have neC:∀b o,X.s₀.heap.get? b=some o→b∉X.ex→b∉ch:=fun b o e hx hb=>by
  rcases(hch b hb).1 with z |z
  ·exact hx z
  ·exact absurd (kT (eI e) z) (Nat.lt_irrefl _)
 have cellK:∀x c,X.env.cells.lookup x=some c→∀v,s.heap.IsCell c v→h'.IsCell c v:=fun x c e v ⟨o,ho,hd⟩=>by
  have nch:c∉ch:=fun z=>(hch c z).2.2.1 x c e rfl
  by_cases hc:c∈X.fs
  ·obtain⟨sl,q⟩:=slot c o (I.cne x c e) hc nch ho (I.freeC x c e)
   exact⟨_,q,hd⟩
  ·exact⟨o,keep c o (I.cne x c e) hc nch ho (I.freeC x c e),hd⟩
 refine⟨I.ok,I.os,hg,⟨fun b o e n hb hx=>?_,fun b o e n hb hx=>?_,fun b o e n hx=>?_,fun b o e hx=>?_,fun b xs e=>tups b xs (I.base.tups b xs e),fun b o xs e=>frzs b o xs (I.base.frzs b o xs e),fun b ps e=>?_⟩,?_,fun x c e=>?_,?_,fun x c e=>?_,fun p hp=>?_,hok,I.len⟩
 ·exact keep b o (neL b o e) hb (neC b o e hx) (I.base.keep b o e n hb hx) (I.base.free b o e n hx)
 ·obtain⟨sl,e1⟩:=I.base.slot b o e n hb hx
  obtain⟨sl',e2⟩:=slot b _ (neL b o e) hb (neC b o e hx) e1 (I.base.free b o e n hx)
  exact⟨sl',e2⟩
 ·obtain⟨o',e1⟩:=I.base.there b o e hx
  exact free b o' (neC b o e hx) e1 (I.base.free b o e n hx)
 ·obtain⟨o',e1⟩:=I.base.there b o e hx
  exact there b o' (neC b o e hx) e1
 ·exact tbls b _ (I.base.tbls b ps e)
 ·obtain⟨m,hn,hl⟩:=I.loc
  refine⟨m,ns m hn,fun i x v e1 e2 e3=>?_⟩
  obtain⟨u,r,l⟩:=hl i x v e1 e2 e3
  refine⟨u,r,?_⟩
  rcases l with l |⟨k,c,e,z⟩
  ·exact .inl l
  ·exact .inr ⟨k,c,e,cellK x c e _ z⟩
 ·obtain⟨v,z⟩:=I.cell x c e
  exact⟨v,cellK x c e v z⟩
 ·obtain⟨m,⟨o,_,_,ho,_⟩,_⟩:=I.loc
  exact free _ o (fun z=>(hch _ z).2.1 rfl) ho I.free
 ·obtain⟨v,o,ho,hd⟩:=I.cell x c e
  exact free c o (fun z=>(hch c z).2.2.1 x c e rfl) ho (I.freeC x c e)
 ·obtain⟨e,n,ne,nf,d⟩:=I.pin p hp
  have nch:p.1∉ch:=fun z=>(hch p.1 z).2.2.2 p hp rfl
  exact⟨keep p.1 p.2 ne nf nch e n,free p.1 p.2 nch e n,ne,nf,d⟩
theorem Inv.un(I:Inv X pins σ H s)(u:Un X.fs [] H H' s.heap h')(hok:HOk X.prog X.w H' h'):Inv X pins σ H' {s with heap:=h',toks:=t'}:=by
 obtain⟨m,⟨o,es,ep,ho,r⟩,_⟩:=id I.loc
 obtain⟨sl,hL⟩:=u.any ho I.free (by simp)
 exact I.step (g':=s.gens) (d':=s.drawn) (ch:=[]) (fun _ z=>nomatch z) (fun b o _ hb _ e n=>u.keep b o e n hb (by simp)) (fun b o _ hb _ e n=>u.slot b o e n hb (by simp)) (fun b o _ e n=>u.free b o e n (by simp)) (fun b o _ e=>u.there b o e (by simp)) u.tups u.frzs u.tbls (fun m' hm=>by
  obtain⟨o',es',ep',ho',r'⟩:=hm
  rw[ho]at ho';cases ho'
  exact⟨_,es',ep',hL,r'⟩) hok I.bare
theorem Inv.call{g':Array GenState}{d':Drawn}(I:Inv X pins σ H s)(u:Un (gb X.stack) ch H H' s.heap h')(hok:HOk X.prog X.w H' h')(hg:AllBare g')
  (hch:∀b∈ch,(b∈X.ex∨X.s₀.heap.objs.size≤b)∧b≠X.env.locals∧(∀x c,X.env.cells.lookup x=some c→c≠b)∧∀p∈X.pn++pins,p.1≠b):
  Inv X pins σ H' {s with heap:=h',gens:=g',drawn:=d',toks:=t'}:=by
 obtain⟨m,⟨o,es,ep,ho,r⟩,_⟩:=id I.loc
 obtain⟨sl,hL⟩:=u.any ho I.free fun z=>(hch _ z).2.1 rfl
 exact I.step (ch:=ch) hch (fun b o hL hb hc e n=>u.keep b o e n (fun z=>(Zai.mp (I.stkSub b z)).elim hL hb) hc) (fun b o _ _ hc e n=>u.any e n hc) (fun b o hc e n=>u.free b o e n hc) (fun b o hc e=>u.there b o e hc) u.tups u.frzs u.tbls (fun m' hm=>by
  obtain⟨o',es',ep',ho',r'⟩:=hm
  rw[ho]at ho';cases ho'
  exact⟨_,es',ep',hL,r'⟩) hok hg
theorem Inv.turned{it:Addr}(I:Inv X pins σ H s)(k:∀b o,b≠it→s.heap.get? b=some o→h'.get? b=some o)(hn:H it=none)(hL:it≠X.env.locals)
  (h1:it∈X.ex∨X.s₀.heap.objs.size≤it) (h2:∀x c,X.env.cells.lookup x=some c→c≠it) (h3:∀p∈X.pn++pins,p.1≠it):Inv X pins σ H {s with heap:=h',toks:=t'}:=by
 have nit:∀b u,H b=some u→b≠it:=fun b u e z=>by rw[z,hn]at e;cases e
 refine I.step (g':=s.gens) (d':=s.drawn) (ch:=[it]) (fun b hb=>?_) (fun b o _ _ hc e _=>k b o (fun z=>hc (by simp[z])) e) (fun b o _ _ hc e _=>⟨o.slots,k b o (fun z=>hc (by simp[z])) e⟩) (fun _ _ _ _ n=>n)
  (fun b o hc e=>⟨o,k b o (fun z=>hc (by simp[z])) e⟩) (fun _ _ e=>e) (fun _ _ _ e=>e) (fun _ _ e=>e) (fun m hm=>?_) (fun b u e=>?_) I.bare
 ·have e:b=it:=by simpa using hb
  subst e
  exact⟨h1,hL,h2,h3⟩
 ·obtain⟨o,es,ep,ho,r⟩:=hm
  exact⟨o,es,ep,k _ o (Ne.symm hL) ho,r⟩
 ·refine(I.hok b u e).stay (fun c v hc q=>k c v ?_ q) (fun _ q=>q) fun _ _ q=>q
  rcases hc with z |z
  ·rw[z];exact nit b u e
  ·exact nit c _ z
theorem Inv.tok(I:Inv X pins σ H s)(t:Nat):Inv X pins σ H {s with toks:=t}:=I.un (h':=s.heap) (t':=t) Un.refl I.hok
theorem Inv.kept(I:Inv X pins σ H s)(k:∀b u,s.heap.get? b=some u→h'.get? b=some u):Inv X pins σ H {s with heap:=h',toks:=t'}:=I.un (Un.kept k) (I.hok.kept k)
theorem Inv.laid{o:HO}(I:Inv X pins σ H s)(k:∀b u,s.heap.get? b=some u→h'.get? b=some u)(hp:s.heap.objs.size≤a)(new:ObjOk X.prog X.w (upd H a o) h' a o):
  Inv X pins σ (upd H a o) {s with heap:=h',toks:=t'}:=I.un (Un.laid k hp (I.hok.fresh hp)) (I.hok.laid k hp new)
theorem Inv.write{x e:Addr}{o:HO}(I:Inv X pins σ H s)(mu:HY (H x))(he:e=x∨H e=some (.own x))(k:∀b u,b≠e→s.heap.get? b=some u→h'.get? b=some u)(heo:∃u,h'.get? e=some u)
  (new:ObjOk X.prog X.w (upd H x o) h' x o):Inv X pins σ (upd H x o) {s with heap:=h',toks:=t'}:=I.un (Un.write mu he k heo) (I.hok.write mu he k heo new)
theorem Inv.pins_of{pins':List (Addr×Obj)}(I:Inv X pins σ H s)(h:∀p∈pins',s.heap.get? p.1=some p.2∧H p.1=none∧p.1≠X.env.locals∧p.1∉X.fs∧∀v,p.2.data≠ .cell v):Inv X pins' σ H s:=
 ⟨I.ok,I.os,I.bare,I.base,I.loc,I.cell,I.free,I.freeC,fun p hp=>(Zaf.mp hp).elim (fun z=>I.pin p (wR _ z)) (h p),I.hok,I.len⟩
theorem nu{N:List Str}(hN:N.Nodup){i:Nat}(a:N[i]? =some x)(b:N[j]? =some x):i=j:=by
 obtain⟨h1,e1⟩:=Zar.mp a
 obtain⟨h2,e2⟩:=Zar.mp b
 exact(List.getElem_inj hN).mp (e1.trans e2.symm)
theorem wV{M:Model}{A:Around}{E:Value→Shared→Prop}{i:Nat}{u:Value}{Q:Unit→Shared→Prop}(I:Inv X pins σ H s)(hN:X.N.Nodup)(hi:X.N[i]? =some x)(hx:Ep X.env.scope x)(r:RelV v u)
  (h:∀s',Inv X pins (σ.set i (some v)) H s'→(∃a,Heap.SameBut a s.heap s'.heap∧(a=X.env.locals∨X.env.cells.lookup x=some a))→Q () s') (hf:X.fn x=true∨X.env.scope.names.lookup x=some .local:=by first |exact .inl rfl |exact .inr rfl |assumption):wpAny M A (storeName X.env x u) Q E s:=by
 obtain⟨m,hn,hl⟩:=id I.loc
 have hcls:(X.env.scope.kind ==.class||(X.env.scope.kind ==.module&&X.env.locals != X.env.globals))=false:=by rw[I.ok.kind];rfl
 have hiσ:i < σ.length:=by rw[I.len];exact(Zar.mp hi).1
 have cne:=I.cne
 have tracked:∀{a:Addr} {h':Heap},(∃o,s.heap.get? a=some o∧H a=none)→Heap.SameBut a s.heap h'→HOk X.prog X.w H h':=fun {a h'} ha hs b ob e=>by
  obtain⟨_,_,hfree⟩:=ha
  refine(I.hok b ob e).stay (fun c w' hc q=>(hs.2 c ?_).trans q) (fun _ q=>q) fun _ _ q=>q
  rintro rfl
  rcases hc with rfl |hc
  ·rw[hfree]at e;cases e
  ·rw[hfree]at hc;cases hc
 rcases hx with hk |hk
 ·refine wpAny_storeName_local hk hn (fun h' hn' hs=>?_) hcls
  obtain⟨oL,_,_,hoL,_⟩:=id hn
  refine h _ ⟨I.ok,I.os,I.bare,⟨fun b o e n hb hx=>?_,fun b o e n hb hx=>?_,I.base.free,fun b o e hx=>?_,I.base.tups,I.base.frzs,I.base.tbls⟩,⟨_,hn',fun j y v' e1 e2 e3=>?_⟩,fun y c e=>?_,I.free,I.freeC,fun p hp=>?_,tracked ⟨oL,hoL,I.free⟩ hs,by simpa using I.len⟩ ⟨_,hs,.inl rfl⟩
  ·exact(hs.2 b (eU (kT (eI e) I.ok.above))).trans (I.base.keep b o e n hb hx)
  ·obtain⟨sl,e1⟩:=I.base.slot b o e n hb hx
   exact⟨sl,(hs.2 b (eU (kT (eI e) I.ok.above))).trans e1⟩
  ·obtain⟨o',e1⟩:=I.base.there b o e hx
   exact⟨o',(hs.2 b (eU (kT (eI e) I.ok.above))).trans e1⟩
  ·by_cases hj:j=i
   ·subst hj
    rw[hi]at e1;cases e1
    rw[List.getElem?_set_self hiσ]at e2
    cases e2
    exact⟨u,r,.inl ⟨hk,by simp⟩⟩
   ·rw[List.getElem?_set_ne (Ne.symm hj)]at e2
    obtain⟨u',r',q⟩:=hl j y v' e1 e2 e3
    refine⟨u',r',?_⟩
    rcases q with⟨k,e⟩ |⟨k,c,e,z⟩
    ·refine .inl ⟨k,?_⟩
     have:y≠x:=fun e=>hj (nu hN e1 (e▸hi))
     simp[this,e]
    ·exact .inr ⟨k,c,e,z.sameBut hs (cne y c e)⟩
  ·obtain⟨w',z⟩:=I.cell y c e
   exact⟨w',z.sameBut hs (cne y c e)⟩
  ·obtain⟨e,n,ne,nf,d⟩:=I.pin p hp
   exact⟨(hs.2 p.1 ne).trans e,n,ne,nf,d⟩
 ·have hfn:X.fn x=true:=by
   rcases hf with z |z
   ·exact z
   ·rw[z]at hk;cases hk
  obtain⟨c,hc⟩:=I.ok.has x (.inl hk)
  obtain⟨w',z⟩:=I.cell x c hc
  refine wpAny_storeName_cell I.ok.kind hk hc z (fun h' hc' hs=>?_)
  obtain⟨oc,hoc,hocd⟩:=id z
  refine h {s with heap:=h'} ⟨I.ok,I.os,I.bare,⟨fun b o e n hb hx=>?_,fun b o e n hb hx=>?_,I.base.free,fun b o e hx=>?_,I.base.tups,I.base.frzs,I.base.tbls⟩,⟨m,hn.sameBut hs (Ne.symm (cne x c hc)),fun j y v' e1 e2 e3=>?_⟩,fun y c' e=>?_,I.free,I.freeC,fun p hp=>?_,tracked ⟨oc,hoc,I.freeC x c hc⟩ hs,by simpa using I.len⟩ ⟨c,hs,.inr hc⟩
  ·exact(hs.2 b (eU (kT (eI e) (I.ok.cab x c hfn hc)))).trans (I.base.keep b o e n hb hx)
  ·obtain⟨sl,e1⟩:=I.base.slot b o e n hb hx
   exact⟨sl,(hs.2 b (eU (kT (eI e) (I.ok.cab x c hfn hc)))).trans e1⟩
  ·obtain⟨o',e1⟩:=I.base.there b o e hx
   exact⟨o',(hs.2 b (eU (kT (eI e) (I.ok.cab x c hfn hc)))).trans e1⟩
  ·by_cases hj:j=i
   ·subst hj
    rw[hi]at e1;cases e1
    rw[List.getElem?_set_self hiσ]at e2
    cases e2
    exact⟨u,r,.inr ⟨.inl hk,c,hc,hc'⟩⟩
   ·rw[List.getElem?_set_ne (Ne.symm hj)]at e2
    obtain⟨u',r',q⟩:=hl j y v' e1 e2 e3
    refine⟨u',r',?_⟩
    rcases q with q |⟨k,c',e,z'⟩
    ·exact .inl q
    ·refine .inr ⟨k,c',e,z'.sameBut hs ?_⟩
     rintro rfl
     exact hj (nu hN e1 (I.ok.inj _ _ _ e hc▸hi))
  ·by_cases hcc:c'=c
   ·subst hcc;exact⟨_,hc'⟩
   ·obtain⟨w2,z2⟩:=I.cell y c' e
    exact⟨w2,z2.sameBut hs hcc⟩
  ·obtain⟨e,n,ne,nf,d⟩:=I.pin p hp
   refine⟨(hs.2 p.1 ?_).trans e,n,ne,nf,d⟩
   intro q
   rw[q,hoc]at e
   have q':oc=p.2:=Option.some.inj e
   exact d w' (by rw[←q'];exact hocd)
theorem nv{M:Model}{A:Around}{E:Value→Shared→Prop}{i:Nat}{u:Value}{Q:Unit→Shared→Prop}(I:Inv X pins σ H s)(hN:X.N.Nodup)(hi:X.N[i]? =some x)(hx:Ep X.env.scope x)(r:RelV v u)
  (h:∀s',Inv X pins (σ.set i (some v)) H s'→Q () s') (hf:X.fn x=true∨X.env.scope.names.lookup x=some .local:=by first |exact .inl rfl |exact .inr rfl |assumption):wpAny M A (storeName X.env x u) Q E s:=
 wV I hN hi hx r (fun s' I' _=>h s' I') hf
theorem Inv.call'{s':Shared}(I:Inv X pins σ H s)(ho:s'.os=s.os)(u:Un (gb X.stack) ch H H' s.heap s'.heap)(hok:HOk X.prog X.w H' s'.heap)(hg:AllBare s'.gens)
  (hch:∀b∈ch,(b∈X.ex∨X.s₀.heap.objs.size≤b)∧b≠X.env.locals∧(∀x c,X.env.cells.lookup x=some c→c≠b)∧∀p∈X.pn++pins,p.1≠b):Inv X pins σ H' s':=by
 obtain⟨h',g',d',t',o'⟩:=s'
 have e:o'=s.os:=ho
 subst e
 exact I.call (g':=g') (t':=t') (d':=d') u hok hg hch
end
abbrev XK:=Value→Option Addr→Hp→Prop
abbrev St:=List (Option V)
abbrev VK:=V→Hp→Prop
abbrev TE:=St→Hp→VK→Prop
abbrev TT:=St→Hp→(Bool→Hp→Prop)→Prop
abbrev TA:=St→Hp→(List V→Hp→Prop)→Prop
structure Ends where
 nx:St→Hp→Prop
 rt:VK
 bk:St→Hp→Prop:=fun _ _=>False
 ct:St→Hp→Prop:=fun _ _=>False
abbrev TS:=Ends→St→Hp→Prop
def EP(X:Cx)(pins:List (Addr×Obj))(σ:St)(Q:VK)(u:Value)(s':Shared):Prop:=∃v H',Inv X pins σ H' s'∧RelV v u∧Q v H'
def TP(X:Cx)(pins:List (Addr×Obj))(σ:St)(Q:Bool→Hp→Prop)(b:Bool)(s':Shared):Prop:=∃H',Inv X pins σ H' s'∧Q b H'
def AP(X:Cx)(pins:List (Addr×Obj))(σ:St)(Q:List V→Hp→Prop)(us:List Value)(s':Shared):Prop:=∃vs H',Inv X pins σ H' s'∧Vals vs us∧Q vs H'
def SP(X:Cx)(pins:List (Addr×Obj))(D:Ends)(f:Flow)(s':Shared):Prop:=
 match f with
 |.next=>∃σ' H',Inv X pins σ' H' s'∧D.nx σ' H'
 |.brk=>∃σ' H',Inv X pins σ' H' s'∧D.bk σ' H'
 |.cont=>∃σ' H',Inv X pins σ' H' s'∧D.ct σ' H'
 |.ret u=>∃v σ' H',Inv X pins σ' H' s'∧RelV v u∧D.rt v H'
def PE(X:Cx)(e:Expr)(t:TE):Prop:=
 ∀(pins:List (Addr×Obj)) (s:Shared) (σ:St) (H:Hp) (Q:VK),Inv X pins σ H s→t σ H Q→wpAny (model X.prog X.w) X.A (eval e X.env) (EP X pins σ Q) X.xe s
def PT(X:Cx)(e:Expr)(t:TT):Prop:=
 ∀(pins:List (Addr×Obj)) (s:Shared) (σ:St) (H:Hp) (Q:Bool→Hp→Prop),Inv X pins σ H s→t σ H Q→wpAny (model X.prog X.w) X.A (isTrue e X.env (eval e X.env)) (TP X pins σ Q) X.xe s
def PW(X:Cx)(e:Expr)(t:TT):Prop:=
 ∀(whole:Sem Value) (pins:List (Addr×Obj)) (s:Shared) (σ:St) (H:Hp) (Q:Bool→Hp→Prop),Inv X pins σ H s→t σ H Q→wpAny (model X.prog X.w) X.A (isTrue e X.env whole) (TP X pins σ Q) X.xe s
theorem PW.pt{X:Cx}{t:TT}(h:PW X e t):PT X e t:=h _
def PA(X:Cx)(es:List Expr)(t:TA):Prop:=
 ∀(pos:Pos) (pins:List (Addr×Obj)) (s:Shared) (σ:St) (H:Hp) (Q:List V→Hp→Prop),Inv X pins σ H s→t σ H Q→wpAny (model X.prog X.w) X.A (spliced (backTo pos (starEach es X.env))) (AP X pins σ Q) X.xe s
def PS(X:Cx)(st:Stmt)(t:TS):Prop:=
 ∀(pins:List (Addr×Obj)) (s:Shared) (σ:St) (H:Hp) (D:Ends),Inv X pins σ H s→t D σ H→wpAny (model X.prog X.w) X.A (exec st X.env) (SP X pins D) X.xe s
def PSs(X:Cx)(st:List Stmt)(t:TS):Prop:=
 ∀(pins:List (Addr×Obj)) (s:Shared) (σ:St) (H:Hp) (D:Ends),Inv X pins σ H s→t D σ H→wpAny (model X.prog X.w) X.A (execs st X.env) (SP X pins D) X.xe s
theorem ce{t:Sem α}{Q Q':α→Shared→Prop}{M:Model}{A:Around}{E:Value→Shared→Prop}{s:Shared}(h:wpAny M A t Q E s)(hQ:∀a s,Q a s→Q' a s):wpAny M A t Q' E s:=zz2 h hQ fun _ _ x=>x
end L2
variable {X:L2.Cx} {D:L2.Ends}
namespace L2
open PySem PySem.Spec PyProof.Rows
section
variable {X:Cx}
def Ik(i:Nat):TE:=fun σ H Q=>∃v,σ[i]? =some (some v)∧Q v H
def tC(v:V):TE:=fun _ H Q=>Q v H
theorem p9{i:Nat}   (hN:X.N[i]? =some x) (hv:Eo X.env.scope x) (hd:(x == ("__debug__":Str))=false:=by decide) (hcd:(x == ("__classdict__":Str))=false:=by decide):PE X (.Name x pos) (Ik i):=by
 intro pins s σ H Q I h
 obtain⟨v,e,h⟩:=h
 obtain⟨m,hn,hl⟩:=I.loc
 obtain⟨u,r,l⟩:=hl i x v hN e hv
 have fin:EP X pins σ Q u s:=⟨v,H,I,r,h⟩
 rcases l with⟨hk,hm⟩ |⟨hk,c,hc,hcell⟩
 ·exact wpAny_Name (wpAny_loadName_local I.ok.kind hk hn hm fin) hd
 ·rcases hk with hk |hk
  ·exact wpAny_Name (wpAny_loadName_cell I.ok.kind hk hc hcell fin) hd
  ·exact wpAny_Name (wpAny_loadName_free I.ok.kind hk hc hcell fin hcd) hd
theorem Er{i j pos}:PE X (.Constant (.int i) j pos) (tC (.int i)):=fun _ _ _ H _ I h=>wpAny_Constant_int ⟨.int i,H,I.tok _,⟨_,rfl⟩,h⟩
theorem Gx{b j pos}:PE X (.Constant (.bool b) j pos) (tC (.bl b)):=fun _ _ _ H _ I h=>Constant_bool ⟨.bl b,H,I,rfl,h⟩
theorem Es{j pos}:PE X (.Constant .none j pos) (tC .non):=fun _ _ _ H _ I h=>Constant_none ⟨.non,H,I,rfl,h⟩
theorem p_{x j pos}:PE X (.Constant (.str x) j pos) (tC (.str x)):=fun _ _ _ H _ I h=>Calls.Constant_str ⟨.str x,H,I.tok _,⟨_,rfl⟩,h⟩
def Gl(X:Cx)(x:Str):Prop:=X.env.kindOf x=some .globalImplicit
theorem fi{E:Value→Shared→Prop}{s:Shared}{σ:St}{u:Value}(I:Inv X pins σ H s)(hg:Gl X x)(hm:X.mg x=some u)(h:Q u s)
  (hd:(x == ("__debug__":Str))=false:=by decide):wpAny (model X.prog X.w) X.A (eval (.Name x pos) X.env) Q E s:=
 Calls.Name_function_global I.ok.kind hg (Calls.loadGlobal_global (by rw[I.ok.glob];exact I.mod.glob.keeps I.bk) hm h) hd
theorem lN{E:Value→Shared→Prop}{s:Shared}{σ:St}{u:Value}(I:Inv X pins σ H s)(hg:Gl X x)(hm:X.mg x=none)(hv:bootBuiltins x=some u)(h:Q u s)
  (hn:x≠"__name__":=by decide) (hd:(x == ("__debug__":Str))=false:=by decide):wpAny (model X.prog X.w) X.A (eval (.Name x pos) X.env) Q E s:=by
 obtain⟨mb,h1,h2⟩:=I.mod.blt
 exact Calls.Name_function_global I.ok.kind hg (Calls.loadGlobal_builtin (by rw[I.ok.glob];exact I.mod.glob.keeps I.bk) hm (by rw[I.ok.blt];exact h1.keeps I.bk) ((h2 x hn).trans hv) h) hd
theorem qa{u:Value}  (hg:Gl X x) (hm:X.mg x=some u) (r:RelV v u) (hd:(x == ("__debug__":Str))=false:=by decide):PE X (.Name x pos) (tC v):=
 fun _ _ _ H _ I h=>fi I hg hm ⟨v,H,I,r,h⟩ hd
theorem vM{u:Value}  (hg:Gl X x) (hm:X.mg x=none) (hv:bootBuiltins x=some u) (r:RelV v u) (hn:x≠"__name__":=by decide) (hd:(x == ("__debug__":Str))=false:=by decide):PE X (.Name x pos) (tC v):=
 fun _ _ _ H _ I h=>lN I hg hm hv ⟨v,H,I,r,h⟩ hn hd
variable {a b:Expr} {ta tb:TE} {pos:Pos}
variable {tA tB':TT} {dO:List Expr}
def Jz(t u:TT):TT:=fun σ H Q=>t σ H fun c H1=>if c=true then Q true H1 else u σ H1 Q
def Il(t:TT):TT:=fun σ H Q=>t σ H fun c H1=>Q (!c) H1
theorem Et(ha:PT X a tA):PW X (.BoolOp .Or [a] pos) tA:=by
 intro wh pins s σ H Q I h
 refine isTrue_or (ce (ha pins s σ H Q I h) fun c s1 e=>?_)
 cases c with
 |false=>exact isTrue_or_nil e
 |true=>exact e
theorem Gy(ha:PT X a tA)(hb:PW X (.BoolOp .Or (b::dO) pos) tB'):PW X (.BoolOp .Or (a::b::dO) pos) (Jz tA tB'):=by
 intro wh pins s σ H Q I h
 refine isTrue_or (ce (ha pins s σ H _ I h) fun c s1 ⟨H1,I1,q1⟩=>?_)
 cases c with
 |true=>exact⟨H1,I1,q1⟩
 |false=>exact hb wh pins s1 σ H1 Q I1 q1
theorem Eu(ha:PT X a tA):PT X (.UnaryOp .Not a pos) (Il tA):=by
 intro pins s σ H Q I h
 exact isTrue_not (ha pins s σ H (fun c H1=>Q (!c) H1) I h)
def Gz(ta tb:TE):TE:=fun σ H Q=>ta σ H fun x H1=>∃c,x=.bl c∧if c=true then tb σ H1 Q else Q (.bl false) H1
def GA(ta:TE):TE:=fun σ H Q=>ta σ H fun x H1=>∃c,x=.bl c∧Q (.bl (!c)) H1
theorem Ev{op}{t:TE}(h:PE X a t):PE X (.BoolOp op [a] pos) t:=fun pins s σ H Q I hw=>BoolOp_one (h pins s σ H Q I hw)
theorem Ew(ha:PE X a ta)(hb:PE X (.BoolOp .And (b::dO) pos) tb):PE X (.BoolOp .And (a::b::dO) pos) (Gz ta tb):=by
 intro pins s σ H Q I h
 refine BoolOp_and (ce (ha pins s σ H _ I h) fun v s1 ⟨x,H1,I1,r1,q1⟩=>?_)
 obtain⟨c,rfl,q1⟩:=q1
 cases r1
 refine wpAny_truthy_bool ?_
 cases c with
 |true=>exact hb pins s1 σ H1 Q I1 q1
 |false=>exact⟨.bl false,H1,I1,rfl,q1⟩
theorem Ex(ha:PE X a ta):PE X (.UnaryOp .Not a pos) (GA ta):=by
 intro pins s σ H Q I h
 refine UnaryOp_ (ce (ha pins s σ H _ I h) fun v s1 ⟨x,H1,I1,r1,q1⟩=>?_)
 obtain⟨c,rfl,q1⟩:=q1
 cases r1
 exact not_of (wpAny_truthy_bool ⟨.bl (!c),H1,I1,rfl,q1⟩)
end
end L2
namespace L2
open PySem PySem.Spec PyProof.Rows
def SqL(K:Frag)(H:Hp)(a:Addr)(xs:List V):Prop:=
 Rd H a (.lst xs)∨
  ∃(o:Obj) (its:Array Value) (n:Nat),K.lookup a=some o∧o.cls=.type "list"∧o.dict=none∧o.data=.seq its n∧its.size≤sizeLine∧Vals xs its.toList
def SqT(K:Frag)(H:Hp)(a:Addr)(xs:List V):Prop:=
 Rd H a (.tup xs)∨
  ∃(o:Obj) (its:Array Value) (n:Nat),K.lookup a=some o∧o.cls=.type "tuple"∧o.data=.seq its n∧its.size≤sizeLine∧Vals xs its.toList
def Im:Value→Option V
 |.none=>some .non
 |.bool b=>some (.bl b)
 |.int i _=>some (.int i)
 |.str x _=>some (.str x)
 |.bytes b _=>some (.byt b)
 |.float b _=>some (.flt b)
 |.ref a=>some (.ref a)
 |.type n=>some (.ty n)
 |_=>none
theorem RelV.abs{x:V}{u:Value}(r:RelV x u):Im u=some x:=by
 cases x with
 |non=>cases r;rfl
 |bl _=>cases r;rfl
 |int _=>obtain⟨t,rfl⟩:=r;rfl
 |str _=>obtain⟨t,rfl⟩:=r;rfl
 |byt _=>obtain⟨t,rfl⟩:=r;rfl
 |flt _=>obtain⟨t,rfl⟩:=r;rfl
 |ref _=>cases r;rfl
 |ty _=>cases r;rfl
theorem RelV.inj{x y:V}{u:Value}(r:RelV x u)(q:RelV y u):x=y:=Option.some.inj (r.abs.symm.trans q.abs)
theorem Vals.inj{ys:List V}(h:Vals xs us)(k:Vals ys us):xs=ys:=by
 induction h generalizing ys with
 |nil=>cases k;rfl
 |cons r _ ih=>cases k with |cons r' t'=>rw[r.inj r',ih t']
section
variable {X:Cx} {pins:List (Addr×Obj)} {σ:St} {H:Hp} {s:Shared} {a:Addr} {xs ys:List V}
theorem SqL.of{K:Frag}(h:H a=some (.lst xs)):SqL K H a xs:=.inl (.inl h)
theorem SqT.of{K:Frag}(h:H a=some (.tup xs)):SqT K H a xs:=.inl (.inl h)
theorem Inv.list(I:Inv X pins σ H s)(h:SqL X.K H a xs):∃its:List Value,Vals xs its∧PlainL s.heap a its.toArray∧xs.length≤sizeLine:=by
 rcases h with h |⟨o,its,n,hk,hc,hd,hs,hz,r⟩
 ·obtain⟨z,its,n,r,e⟩:=h.ok I.hok
  exact⟨its,r,⟨_,n,e,rfl,rfl,rfl⟩,z⟩
 ·refine⟨its.toList,r,⟨o,n,I.kIn a o hk,hc,hd,by simpa using hs⟩,?_⟩
  have e:=r.length
  simp only[Array.length_toList]at e
  omega
theorem Inv.tuple(I:Inv X pins σ H s)(h:SqT X.K H a xs):∃its:List Value,Vals xs its∧IsTup s.heap a its.toArray∧xs.length≤sizeLine:=by
 rcases h with h |⟨o,its,n,hk,hc,hs,hz,r⟩
 ·obtain⟨z,its,r,p⟩:=h.ok I.hok
  exact⟨its,r,p,z⟩
 ·refine⟨its.toList,r,⟨o,I.kIn a o hk,hc,n,by simpa using hs⟩,?_⟩
  have e:=r.length
  simp only[Array.length_toList]at e
  omega
theorem Inv.list_inj(I:Inv X pins σ H s)(h:SqL X.K H a xs)(h':SqL X.K H a ys):xs=ys:=by
 obtain⟨its,r,⟨o,n,e,_,_,d⟩,_⟩:=I.list h
 obtain⟨its',r',⟨o',n',e',_,_,d'⟩,_⟩:=I.list h'
 rw[e]at e';cases e'
 rw[d]at d'
 injection d' with d1 _
 have:its=its':=by simpa using congrArg Array.toList d1
 subst this
 exact r.inj r'
theorem Inv.tuple_inj(I:Inv X pins σ H s)(h:SqT X.K H a xs)(h':SqT X.K H a ys):xs=ys:=by
 obtain⟨its,r,⟨o,e,_,n,d⟩,_⟩:=I.tuple h
 obtain⟨its',r',⟨o',e',_,n',d'⟩,_⟩:=I.tuple h'
 rw[e]at e';cases e'
 rw[d]at d'
 injection d' with d1 _
 have:its=its':=by simpa using congrArg Array.toList d1
 subst this
 exact r.inj r'
end
abbrev Cx.wish(X:Cx)(E:Value→Shared→Prop):Cx:={X with xe:=E}
abbrev Cx.nox(X:Cx):Cx:=X.wish fun _ _=>False
theorem Cx.Ok.wish(ok:X.Ok)(E:Value→Shared→Prop):(X.wish E).Ok:=
 ⟨ok.mod,ok.kind,ok.glob,ok.blt,ok.above,ok.inj,ok.has,ok.cab,ok.hd,ok.frames,ok.stk,ok.exf,ok.bs,ok.bsz,ok.noex,ok.exfs,ok.funs,ok.frf,ok.tab⟩
theorem Cx.Ok.unwish{E:Value→Shared→Prop}(ok:(X.wish E).Ok):X.Ok:=
 ⟨ok.mod,ok.kind,ok.glob,ok.blt,ok.above,ok.inj,ok.has,ok.cab,ok.hd,ok.frames,ok.stk,ok.exf,ok.bs,ok.bsz,ok.noex,ok.exfs,ok.funs,ok.frf,ok.tab⟩
section
variable {X:Cx} {pins:List (Addr×Obj)} {σ:St} {H:Hp} {s:Shared} {E:Value→Shared→Prop}
theorem Inv.wish(I:Inv X pins σ H s)(E:Value→Shared→Prop):Inv (X.wish E) pins σ H s:=⟨I.ok.wish E,I.os,I.bare,I.base,I.loc,I.cell,I.free,I.freeC,I.pin,I.hok,I.len⟩
theorem Inv.unwish(I:Inv (X.wish E) pins σ H s):Inv X pins σ H s:=⟨I.ok.unwish,I.os,I.bare,I.base,I.loc,I.cell,I.free,I.freeC,I.pin,I.hok,I.len⟩
theorem SP.unwish{f:Flow}{s':Shared}(h:SP (X.wish E) pins D f s'):SP X pins D f s':=by
 cases f with
 |next=>obtain⟨σ',H',I,q⟩:=h;exact⟨σ',H',I.unwish,q⟩
 |brk=>obtain⟨σ',H',I,q⟩:=h;exact⟨σ',H',I.unwish,q⟩
 |cont=>obtain⟨σ',H',I,q⟩:=h;exact⟨σ',H',I.unwish,q⟩
 |ret u=>obtain⟨v,σ',H',I,r,q⟩:=h;exact⟨v,σ',H',I.unwish,r,q⟩
theorem PSs.nox{st:List Stmt}{t:TS}(h:PSs X.nox st t):PSs X st t:=fun pins s σ H D I hw=>
 zz2 (h pins s σ H D (I.wish _) hw) (fun _ _ q=>q.unwish) fun _ _ z=>False.elim z
end
section
variable {X:Cx} {st:Stmt} {dO:List Stmt} {t u:TS} {e:Expr} {te:TE} {pos:Pos}
def GB:TS:=fun D σ H=>D.nx σ H
def Io(t u:TS):TS:=fun D σ H=>t {D with nx:=u D} σ H
theorem B5:PSs X [] GB:=fun _ _ σ H _ I h=>wpAny_execs_nil ⟨σ,H,I,h⟩
theorem zG(h1:PS X st t)(h2:PSs X dO u):PSs X (st::dO) (Io t u):=by
 intro pins s σ H D I h
 refine wpAny_execs_cons (ce (h1 pins s σ H {D with nx:=u D} I h) fun f s1 q=>?_)
 cases f with
 |next=>
  obtain⟨σ',H',I',q⟩:=q
  exact h2 pins s1 σ' H' D I' q
 |ret v=>exact q
 |brk=>exact q
 |cont=>exact q
theorem B6(h1:PS X st t):PSs X [st] t:=by
 intro pins s σ H D I h
 refine wpAny_execs_cons (ce (h1 pins s σ H D I h) fun f s1 q=>?_)
 cases f with
 |next=>exact wpAny_execs_nil q
 |ret v=>exact q
 |brk=>exact q
 |cont=>exact q
theorem Inv.quiet{σ:St}{s:Shared}(I:Inv X pins σ H s):interactive X.env=false:=by simp[interactive,I.ok.kind]
def GC(te:TE):TS:=fun D σ H=>te σ H fun _ H1=>D.nx σ H1
theorem B7(he:PE X e te)(hs:swapsWith e none pos.line X.env=pure false:=by rfl):PS X (.Expr e pos) (GC te):=by
 intro pins s σ H D I h
 exact wpAny_Expr_any (ce (he pins s σ H _ I h) fun v s1 ⟨x,H1,I1,r1,q1⟩=>⟨σ,H1,I1,q1⟩) I.quiet hs
def Ip(te:TE):TS:=fun D σ H=>te σ H D.rt
theorem Ey(he:PE X e te):PS X (.Return (some e) pos) (Ip te):=by
 intro pins s σ H D I h
 exact wpAny_Return_some (ce (he pins s σ H _ I h) fun v s1 ⟨x,H1,I1,r1,q1⟩=>⟨x,σ,H1,I1,r1,q1⟩)
def Iq(c:TT)(t u:TS):TS:=fun D σ H=>c σ H fun b H1=>if b=true then t D σ H1 else u D σ H1
theorem GD{a b:List Stmt}{tc:TT}(hc:PT X c tc)(ha:PSs X a t)(hb:PSs X b u):PS X (.If c a b pos) (Iq tc t u):=by
 intro pins s σ H D I h
 refine wpAny_If (ce (hc pins s σ H _ I h) fun d s1 ⟨H1,I1,q1⟩=>?_)
 cases d with
 |true=>exact ha pins s1 σ H1 D I1 q1
 |false=>exact hb pins s1 σ H1 D I1 q1
def Ez:TS:=fun _ _ _=>False
theorem zH:PS X st Ez:=fun _ _ _ _ _ _ h=>h.elim
end
abbrev TG:=V→St→Hp→(St→Hp→Prop)→Prop
def PG(X:Cx)(target:Expr)(t:TG):Prop:=
 ∀(pins:List (Addr×Obj)) (s:Shared) (σ:St) (H:Hp) (v:V) (u:Value) (Q:St→Hp→Prop),Inv X pins σ H s→RelV v u→t v σ H Q→
  wpAny (model X.prog X.w) X.A (assign target X.env u) (fun _ s'=>∃σ' H',Inv X pins σ' H' s'∧Q σ' H') X.xe s
section
variable {X:Cx} {pos:Pos}
def zI(i:Nat):TG:=fun v σ H Q=>Q (σ.set i (some v)) H
theorem vN{i:Nat}(hN:X.N.Nodup)(hi:X.N[i]? =some x)(hx:Ep X.env.scope x)(hf:X.fn x=true∨X.env.scope.names.lookup x=some .local:=by first |exact .inl rfl |exact .inr rfl |assumption):PG X (.Name x pos) (zI i):=by
 intro pins s σ H v u Q I r h
 exact wpAny_assign_Name (nv I hN hi hx r (fun s' I'=>⟨_,H,I',h⟩) hf)
def GE(te:TE)(g:TG):TS:=fun D σ H=>te σ H fun x H1=>g x σ H1 D.nx
theorem EA{i:Nat}{te:TE}(hN:X.N.Nodup)(hi:X.N[i]? =some x)(hx:Ep X.env.scope x)(he:PE X e te)(hs:swapsWith e (some (.Name x pos')) pos.line X.env=pure false:=by rfl)(hf:X.fn x=true∨X.env.scope.names.lookup x=some .local:=by first |exact .inl rfl |exact .inr rfl |assumption):
  PS X (.Assign [.Name x pos'] e pos) (GE te (zI i)):=by
 intro pins s σ H D I h
 refine wpAny_Assign_Name (ce (he pins s σ H _ I h) fun v s1 ⟨y,H1,I1,r1,q1⟩=>?_) hs
 exact nv I1 hN hi hx r1 (fun s2 I2=>⟨_,H1,I2,q1⟩) hf
end
structure It where
 go:Nat→Hp→Prop
 yld:Nat→Hp→V→Hp→Prop
 stop:Nat→Hp→Prop
def ki(X:Cx)(pins:List (Addr×Obj))(H:Hp)(b:Addr):Prop:=
 H b=none∧b≠X.env.locals∧b∉X.fs∧(b∈X.ex∨X.s₀.heap.objs.size≤b)∧(∀x c,X.env.cells.lookup x=some c→c≠b)∧∀p∈X.pn++pins,p.1≠b
theorem Inv.fpOk{σ:St}{s:Shared}{b:Addr}(I:Inv X pins σ H s)(hb:s.heap.objs.size≤b)(hn:H' b=none):ki X pins H' b:=by
 refine⟨hn,Nat.ne_of_gt (kT I.lt hb),I.nofs hb,.inr (lL I.sz hb),fun x c e z=>?_,fun p hp z=>?_⟩
 ·obtain⟨v,q⟩:=I.cell x c e
  exact absurd (kT q.lt (by rw[z];exact hb)) (Nat.lt_irrefl _)
 ·exact absurd (kT (eI (I.pin p hp).1) (by rw[z];exact hb)) (Nat.lt_irrefl _)
structure Turn (P:Program) (w:World) (K:Frag) (tg:Expr) (J:It) (fp:List Addr) (it:Addr) (tn:Nat→Heap→Prop):Prop where
 mem:it∈fp
 obj:∀i h,tn i h→∀b∈fp,∃o,h.get? b=some o∧∀v,o.data≠ .cell v
 keep:∀i h h',tn i h→(∀b∈fp,∀o,h.get? b=some o→h'.get? b=some o)→tn i h'
 item:∀(X:Cx),X.prog=P→X.w=w→X.K=K→X.calm=true→∀(i:Nat) (pins:List (Addr×Obj)) (s:Shared) (σ:St) (H:Hp) (E:Value→Shared→Prop),Inv X pins σ H s→(∀b∈fp,ki X pins H b)→tn i s.heap→J.go i H→
  wpAny (model P w) X.A (pyNext (.ref it)) (fun r s1=>∃u,r=some u∧
   wpAny (model P w) X.A (letOwnedTupleGo tg (.ref it) u) (fun _ s2=>∃x H',Inv X pins σ H' s2∧RelV x u∧J.yld i H x H'∧tn (i+1) s2.heap∧∀b∈fp,H' b=none) E s1) E s
 done:∀(X:Cx),X.prog=P→X.w=w→X.K=K→X.calm=true→∀(i:Nat) (pins:List (Addr×Obj)) (s:Shared) (σ:St) (H:Hp) (E:Value→Shared→Prop),Inv X pins σ H s→(∀b∈fp,ki X pins H b)→tn i s.heap→J.stop i H→
  wpAny (model P w) X.A (pyNext (.ref it)) (fun r s1=>r=none∧Inv X pins σ H s1) E s
 self:∀(A:Around) (i:Nat) (s:Shared) (Q:Value→Shared→Prop) (E:Value→Shared→Prop),tn i s.heap→Q (.ref it) s→wpAny (model P w) A (pyIter (.ref it)) Q E s
abbrev TI:=St→Hp→(It→Hp→Prop)→Prop
def Jp(X:Cx)(pins:List (Addr×Obj))(σ:St)(tg:Expr)(R:It→Hp→Prop)(itv:Value)(s2:Shared):Prop:=
 ∃(it:Addr) (fp:List Addr) (tn:Nat→Heap→Prop) (J:It) (H':Hp),itv=.ref it∧Inv X pins σ H' s2∧Turn X.prog X.w X.K tg J fp it tn∧tn 0 s2.heap∧(∀b∈fp,ki X pins H' b)∧R J H'
def PI(X:Cx)(tg iter:Expr)(wi:TI):Prop:=
 ∀(pins:List (Addr×Obj)) (s:Shared) (σ:St) (H:Hp) (R:It→Hp→Prop),Inv X pins σ H s→wi σ H R→
  wpAny (model X.prog X.w) X.A (eval iter X.env) (fun v s1=>wpAny (model X.prog X.w) X.A (pyIter v) (Jp X pins σ tg R) X.xe s1) X.xe s
theorem rm{M:Model}{A:Around}{E:Value→Shared→Prop}{s:Shared}{tg:Expr}{it:Addr}{u:Value}{n:String}{vs:Array Value}{Q:Unit→Shared→Prop}(ho:s.heap.get? it=some o)(hc:o.cls=.type n)(hd:o.data=.fields vs)
  (hn:["enumerate","zip","dict_itemiterator","dict_reverseitemiterator","odict_iterator","itertools.zip_longest","itertools.pairwise"].contains n=false) (hQ:Q () s):wpAny M A (letOwnedTupleGo tg (.ref it) u) Q E s:=by
 unfold letOwnedTupleGo
 cases tg <;> first
  |exact zz1 hQ
  |(cases u <;> first
    |exact zz1 hQ
    |(refine zz0 (wpAny_load ho ?_)
      rw[hc,hd]
      show wpAny M A (if (["enumerate","zip","dict_itemiterator","dict_reverseitemiterator","odict_iterator","itertools.zip_longest","itertools.pairwise"].contains n&&vs[0]? == some (rawInt _))=true then _ else _) Q E s
      rw[if_neg (by intro h;rw[hn,Bool.false_and]at h;cases h)]
      exact zz1 hQ))
def Ir(K:Frag)(a:Addr):It:=
 ⟨fun i H=>∃xs x,SqL K H a xs∧xs[i]? =some x,fun i H x H'=>H'=H∧∀xs,SqL K H a xs→xs[i]? =some x,fun i H=>∃xs,SqL K H a xs∧xs.length≤i⟩
def Is(K:Frag)(a:Addr):It:=
 ⟨fun i H=>∃xs x,SqT K H a xs∧xs[i]? =some x,fun i H x H'=>H'=H∧∀xs,SqT K H a xs→xs[i]? =some x,fun i H=>∃xs,SqT K H a xs∧xs.length≤i⟩
def Gp(lo:Int)(n:Nat):It:=⟨fun i _=>i < n,fun i H x H'=>H'=H∧x=.int (lo+i),fun i _=>n≤i⟩
theorem wW{w:World}{K:Frag}{tg:Expr}(a it:Addr):Turn P w K tg (Ir K a) [it] it (fun i h=>h.IsListIter it a i) where
 mem:=by simp
 obj:=fun i h st b hb=>by
  have e:b=it:=by simpa using hb
  subst e
  obtain⟨o,e,c,d⟩:=st
  exact⟨o,e,fun v z=>by rw[d]at z;cases z⟩
 keep:=fun i h h' st k=>st.at fun o e=>k it (by simp) o e
 item:=by
  intro X hP hw hK hc i pins s σ H E I hf st hg
  subst hP hw hK
  obtain⟨xs,x,hq,hx⟩:=hg
  obtain⟨its,rv,p,hz⟩:=I.list hq
  obtain⟨u,hu,ru⟩:=rv.get hx
  obtain⟨f0,f1,f2,f3,f4,f5⟩:=hf it (by simp)
  refine wpAny_pyNext_list_item st p.isList (x:=u) (by simpa using hu) fun h' st' sb=>?_
  have I1:Inv X pins σ H {s with heap:=h'}:=I.turned (t':=s.toks) (fun b o hb e=>(sb.2 b hb).trans e) f0 f1 f3 f4 f5
  obtain⟨o,e,c,d⟩:=id st'
  exact⟨u,rfl,rm (s:={s with heap:=h'}) e c d (by decide) ⟨x,H,I1,ru,⟨rfl,fun ys hy=>by rw[I.list_inj hy hq];exact hx⟩,st',fun b hb=>(hf b hb).1⟩⟩
 done:=by
  intro X hP hw hK hc i pins s σ H E I hf st hg
  subst hP hw hK
  obtain⟨xs,hq,hx⟩:=hg
  obtain⟨its,rv,p,hz⟩:=I.list hq
  obtain⟨f0,f1,f2,f3,f4,f5⟩:=hf it (by simp)
  have hl:=rv.length
  exact wpAny_pyNext_list_end (I.ok.hd hc) st p.isList (by simp;omega) fun h' eb=>⟨rfl,I.turned (t':=s.toks) (fun b o hb e=>eb b o hb e) f0 f1 f3 f4 f5⟩
 self:=fun _ _ _ _ _ st h=>wpAny_pyIter_listiter st h
theorem tM{w:World}{K:Frag}{tg:Expr}(a it:Addr):Turn P w K tg (Is K a) [it] it (fun i h=>h.IsTupleIter it a i) where
 mem:=by simp
 obj:=fun i h st b hb=>by
  have e:b=it:=by simpa using hb
  subst e
  obtain⟨o,e,c,d⟩:=st
  exact⟨o,e,fun v z=>by rw[d]at z;cases z⟩
 keep:=fun i h h' st k=>st.at fun o e=>k it (by simp) o e
 item:=by
  intro X hP hw hK hc i pins s σ H E I hf st hg
  subst hP hw hK
  obtain⟨xs,x,hq,hx⟩:=hg
  obtain⟨its,rv,p,hz⟩:=I.tuple hq
  obtain⟨u,hu,ru⟩:=rv.get hx
  obtain⟨f0,f1,f2,f3,f4,f5⟩:=hf it (by simp)
  refine wpAny_pyNext_tuple_item st (show s.heap.IsTuple a its.toArray from p) (x:=u) (by simpa using hu) fun h' st' sb=>?_
  have I1:Inv X pins σ H {s with heap:=h'}:=I.turned (t':=s.toks) (fun b o hb e=>(sb.2 b hb).trans e) f0 f1 f3 f4 f5
  obtain⟨o,e,c,d⟩:=id st'
  exact⟨u,rfl,rm (s:={s with heap:=h'}) e c d (by decide) ⟨x,H,I1,ru,⟨rfl,fun ys hy=>by rw[I.tuple_inj hy hq];exact hx⟩,st',fun b hb=>(hf b hb).1⟩⟩
 done:=by
  intro X hP hw hK hc i pins s σ H E I hf st hg
  subst hP hw hK
  obtain⟨xs,hq,hx⟩:=hg
  obtain⟨its,rv,p,hz⟩:=I.tuple hq
  obtain⟨f0,f1,f2,f3,f4,f5⟩:=hf it (by simp)
  have hl:=rv.length
  exact wpAny_pyNext_tuple_end (I.ok.hd hc) st (show s.heap.IsTuple a its.toArray from p) (by simp;omega) fun h' eb=>⟨rfl,I.turned (t':=s.toks) (fun b o hb e=>eb b o hb e) f0 f1 f3 f4 f5⟩
 self:=fun _ _ _ _ _ st h=>wpAny_pyIter_tupleiter st h
theorem tN{w:World}{K:Frag}{tg:Expr}(it:Addr)(lo:Int)(n:Nat):Turn P w K tg (Gp lo n) [it] it (fun i h=>IsRangeIter h it (lo+(i:Nat)*1) ((n:Int) - (i:Nat)) 1) where
 mem:=by simp
 obj:=fun i h st b hb=>by
  have e:b=it:=by simpa using hb
  subst e
  exact⟨_,st,fun v z=>by
   have z':Data.fields _=Data.cell v:=z
   cases z'⟩
 keep:=fun i h h' st k=>k it (by simp) _ st
 item:=by
  intro X hP hw hK hc i pins s σ H E I hf st hg
  subst hP hw hK
  obtain⟨f0,f1,f2,f3,f4,f5⟩:=hf it (by simp)
  have W:=Walks.range (prog:=X.prog) (w:=X.w) (I.ok.hd hc) it lo 1 n
  refine W.item i s _ _ hg st fun v h' tk hv st' kk=>?_
  obtain⟨t,rfl⟩:=hv
  have I1:Inv X pins σ H {s with heap:=h',toks:=tk}:=I.turned (fun b o hb e=>kk b o (by simpa using hb) e) f0 f1 f3 f4 f5
  refine⟨_,rfl,rm (s:={s with heap:=h',toks:=tk}) (n:="range_iterator") st' rfl rfl (by decide) ⟨.int (lo+i),H,I1,⟨t,?_⟩,⟨rfl,rfl⟩,st',fun b hb=>(hf b hb).1⟩⟩
  rw[Int.mul_one]
 done:=by
  intro X hP hw hK hc i pins s σ H E I hf st hg
  subst hP hw hK
  obtain⟨f0,f1,f2,f3,f4,f5⟩:=hf it (by simp)
  exact wpAny_pyNext_range_end (I.ok.hd hc) st (by have:n≤i:=hg;omega) fun h' eb=>⟨rfl,I.turned (t':=s.toks) (fun b o hb e=>eb b o hb e) f0 f1 f3 f4 f5⟩
 self:=fun _ _ _ _ _ st h=>wpAny_pyIter_rangeiter st h
end L2
namespace L2
open PySem PySem.Spec PyProof.Rows
section
variable {X:Cx} {tg:Expr}
def GF(K:Frag)(tl:TE):TI:=fun σ H R=>tl σ H fun x H1=>∃a,x=.ref a∧(∃xs,SqL K H1 a xs)∧R (Ir K a) H1
def Iu(K:Frag)(tl:TE):TI:=fun σ H R=>tl σ H fun x H1=>∃a,x=.ref a∧(∃xs,SqT K H1 a xs)∧R (Is K a) H1
theorem B8{l:Expr}{tl:TE}(hl:PE X l tl):PI X tg l (GF X.K tl):=by
 intro pins s σ H R I h
 refine ce (hl pins s σ H _ I h) fun v s1 ⟨x,H1,I1,r1,q1⟩=>?_
 obtain⟨a,e,⟨xs,hq⟩,q⟩:=q1
 subst e
 cases r1
 obtain⟨its,rv,p,hz⟩:=I1.list hq
 refine wpAny_pyIter_list p.isList ?_
 refine⟨s1.heap.objs.size,[s1.heap.objs.size],_,_,H1,rfl,I1.kept (t':=s1.toks) fun b o e=>eT _ e,wW a _,⟨_,kh _ rfl,rfl,rfl⟩,fun b hb=>?_,q⟩
 have e:b=s1.heap.objs.size:=by simpa using hb
 subst e
 exact I1.fpOk (eD _) (I1.hok.fresh (eD _))
theorem EB{l:Expr}{tl:TE}(hl:PE X l tl):PI X tg l (Iu X.K tl):=by
 intro pins s σ H R I h
 refine ce (hl pins s σ H _ I h) fun v s1 ⟨x,H1,I1,r1,q1⟩=>?_
 obtain⟨a,e,⟨xs,hq⟩,q⟩:=q1
 subst e
 cases r1
 obtain⟨its,rv,p,hz⟩:=I1.tuple hq
 refine wpAny_pyIter_tuple (show s1.heap.IsTuple a its.toArray from p) ?_
 refine⟨s1.heap.objs.size,[s1.heap.objs.size],_,_,H1,rfl,I1.kept (t':=s1.toks) fun b o e=>eT _ e,tM a _,⟨_,kh _ rfl,rfl,rfl⟩,fun b hb=>?_,q⟩
 have e:b=s1.heap.objs.size:=by simpa using hb
 subst e
 exact I1.fpOk (eD _) (I1.hok.fresh (eD _))
theorem zJ{σ:St}{s:Shared}{R:It→Hp→Prop}{E:Value→Shared→Prop}{hi:Int}{t u v:Tok}(I:Inv X pins σ H s)(h1: -(2 ^ 62)≤lo)(h2:lo < 2 ^ 62)(h3: -(2 ^ 62)≤hi)(h4:hi < 2 ^ 62)
  (q:R (Gp lo (hi - lo).toNat) H):wpAny (model X.prog X.w) X.A (pyIter (.ref s.heap.objs.size)) (Jp X pins σ tg R) E {s with heap:=s.heap.push {cls:=.type "range",data:=.fields #[.int lo t,.int hi u,.int 1 v]},toks:=tk}:=by
 refine wpAny_pyIter_range (IsRange.new ..) (small_one h1 h2 h3 h4) ?_
 have I1:Inv X pins σ H {s with heap:=s.heap.push {cls:=.type "range",data:=.fields #[.int lo t,.int hi u,.int 1 v]},toks:=tk}:=I.kept fun b o e=>eT _ e
 refine⟨(s.heap.push {cls:=.type "range",data:=.fields #[.int lo t,.int hi u,.int 1 v]}).objs.size,[(s.heap.push {cls:=.type "range",data:=.fields #[.int lo t,.int hi u,.int 1 v]}).objs.size],_,_,H,rfl,
  I1.kept (t':=tk) fun b o e=>eT _ e,tN _ lo (hi - lo).toNat,?_,fun b hb=>?_,q⟩
 ·have e1:lo+((0:Nat):Int)*1=lo:=by simp
  have e2:(((hi - lo).toNat:Nat):Int) - ((0:Nat):Int)=Builtin.Range.rangeSize lo hi 1:=by rw[rangeSize_one];split <;> omega
  show IsRangeIter _ _ (lo+((0:Nat):Int)*1) ((((hi - lo).toNat:Nat):Int) - ((0:Nat):Int)) 1
  rw[e1,e2]
  exact kh _ rfl
 ·have e:b=(s.heap.push {cls:=.type "range",data:=.fields #[.int lo t,.int hi u,.int 1 v]}).objs.size:=by simpa using hb
  subst e
  exact I1.fpOk (eD _) (I1.hok.fresh (eD _))
def DP(ta:TA):TI:=fun σ H R=>ta σ H fun vs H1=>∃j:Int,vs=[.int j]∧ -(2 ^ 62)≤j∧j < 2 ^ 62∧R (Gp 0 j.toNat) H1
theorem wX{a:Expr} {ta:TA}  (hg:Gl X "range") (hm:X.mg "range"=none) (ha:PA X [a] ta) (hs:starEach [a] X.env=[(false,eval a X.env)]:=by rfl):PI X tg (.Call (.Name "range" p) [a] [] pos) (DP ta):=by
 intro pins s σ H R I h
 refine Call_ (lN I hg hm boot_range (PyProof.Rows.callWith_type1 (ce (ha pos pins s σ H _ I h) fun us s1 ⟨vs,H1,I1,r1,q1⟩=>?_) hs rfl))
 obtain⟨j,e,q1,q2,q⟩:=q1
 subst e
 cases r1 with
 |cons r rr=>
  cases rr
  obtain⟨t,rfl⟩:=r
  exact call_range_1 (zJ I1 (by omega) (by omega) q1 q2 (by simpa using q))
def Iv(wi:TI)(g:TG)(tb:TS):TS:=fun D σ H=>wi σ H fun J H1=>∃W:Nat→Nat→St→Hp→Prop,(∃m,W 0 m σ H1)∧∀i m σ H,W i m σ H→
 (J.stop i H∧D.nx σ H)∨(J.go i H∧∃N:St→Hp→Prop,(∀σ' H',N σ' H'→∃m',m' < m∧W (i+1) m' σ' H')∧∀x H',J.yld i H x H'→g x σ H' fun σ2 H2=>tb {D with nx:=N,ct:=N,bk:=D.nx} σ2 H2)
def kj(fp:List Addr)(h:Heap):List (Addr×Obj):=fp.filterMap fun b=>(h.get? b).map fun o=>(b,o)
theorem dD{b:Addr}(hb:b∈fp)(e:h.get? b=some o):(b,o)∈kj fp h:=List.mem_filterMap.mpr ⟨b,hb,by rw[e];rfl⟩
theorem wY{p:Addr×Obj}(hp:p∈kj fp h):p.1∈fp∧h.get? p.1=some p.2:=by
 obtain⟨b,hb,e⟩:=List.mem_filterMap.mp hp
 cases q:h.get? b with
 |none=>rw[q]at e;cases e
 |some o=>
  rw[q]at e
  have e':(b,o)=p:=Option.some.inj e
  subst e'
  exact⟨hb,q⟩
theorem Inv.pinned{σ:St}{s:Shared}(I:Inv X pins σ H s)(hf:∀b∈fp,ki X pins H b)(ho:∀b∈fp,∃o,s.heap.get? b=some o∧∀v,o.data≠ .cell v):Inv X (pins++kj fp s.heap) σ H s:=
 I.pins_of fun p hp=>(Zaf.mp hp).elim (fun z=>I.pin p (kf _ z)) fun z=>by
  obtain⟨hb,e⟩:=wY z
  obtain⟨f0,f1,f2,_⟩:=hf p.1 hb
  obtain⟨o,e',d⟩:=ho p.1 hb
  rw[e]at e';cases e'
  exact⟨e,f0,f1,f2,d⟩
theorem Inv.unpinned{pl:List (Addr×Obj)}{σ:St}{s:Shared}(I:Inv X (pins++pl) σ H s):Inv X pins σ H s:=I.pins_of fun p hp=>I.pin p (kf _ (wR _ hp))
theorem zK{wi:TI}{g:TG}{tb:TS}(hp:PassesOwn (model X.prog X.w) X.A X.env X.xe)(hc:X.calm=true)(hi:PI X tg iter wi)(hg:PG X tg g)(hb:PSs X body tb)
  (hs:∀x,foldedSetIterable iter X.env x=pure x:=by intro _;rfl):PS X (.For tg iter body [] pos) (Iv wi g tb):=by
 intro pins s σ H D I h
 refine wpAny_For (ce (hi pins s σ H _ I h) fun v s1 h1=>ce h1 fun itv s2 h2=>?_) hs
 obtain⟨it,fp,tn,J,H2,e,I2,T,st2,f2,W,⟨m0,w0⟩,turn⟩:=h2
 subst e
 -- what stays true of the iterator's objects through the loop
 have stat:∀{H':Hp},(∀b∈fp,H' b=none)→∀b∈fp,ki X pins H' b:=fun hn b hb=>⟨hn b hb,(f2 b hb).2⟩
 refine codeAny_forLoop_any (fun n s'=>∃i σ' H',Inv X pins σ' H' s'∧tn i s'.heap∧(∀b∈fp,H' b=none)∧W i n σ' H') ?_ m0 ⟨0,σ,H2,I2,st2,fun b hb=>(f2 b hb).1,w0⟩
 rintro n s3 ⟨i,σ3,H3,I3,st3,fr3,w3⟩
 rcases turn i n σ3 H3 w3 with⟨stop,qn⟩ |⟨go,N,hN,step⟩
 ·refine wpAny_passesOwn hp (ce (T.done X rfl rfl rfl hc i pins s3 σ3 H3 X.xe I3 (stat fr3) st3 stop) fun r s4 ⟨hr,I4⟩=>?_)
  subst hr
  exact wpAny_execs_nil ⟨σ3,H3,I4,qn⟩
 ·refine wpAny_passesOwn hp (ce (T.item X rfl rfl rfl hc i pins s3 σ3 H3 X.xe I3 (stat fr3) st3 go) fun r s4 ⟨u,hr,h4⟩=>?_)
  subst hr
  refine wpAny_passesOwn hp (ce h4 fun _ s5 ⟨x,H5,I5,r5,y5,st5,fr5⟩=>?_)
  have I5':=I5.pinned (stat fr5) (T.obj _ _ st5)
  refine wpAny_passesOwn hp (ce (hg _ s5 σ3 H5 x u _ I5' r5 (step x H5 y5)) fun _ s6 ⟨σ6,H6,I6,q6⟩=>?_)
  refine wpAny_passesOwn hp (ce (hb _ s6 σ6 H6 _ I6 q6) fun f s7 q7=>?_)
  have again:∀{σ7:St} {H7:Hp},Inv X (pins++kj fp s5.heap) σ7 H7 s7→N σ7 H7→∃m,m < n∧∃i σ' H',Inv X pins σ' H' s7∧tn i s7.heap∧(∀b∈fp,H' b=none)∧W i m σ' H':=fun {σ7 H7} I7 n7=>by
   obtain⟨m',hm,w7⟩:=hN σ7 H7 n7
   refine⟨m',hm,i+1,σ7,H7,I7.unpinned,T.keep _ _ _ st5 fun b hb o e=>(I7.pin (b,o) (kf _ (kf _ (dD hb e)))).1,fun b hb=>?_,w7⟩
   obtain⟨o,e,d⟩:=T.obj _ _ st5 b hb
   exact(I7.pin (b,o) (kf _ (kf _ (dD hb e)))).2.1
  cases f with
  |next=>obtain⟨σ7,H7,I7,n7⟩:=q7;exact again I7 n7
  |cont=>obtain⟨σ7,H7,I7,n7⟩:=q7;exact again I7 n7
  |brk=>obtain⟨σ7,H7,I7,q7⟩:=q7;exact⟨σ7,H7,I7.unpinned,q7⟩
  |ret v=>obtain⟨x7,σ7,H7,I7,r7,q7⟩:=q7;exact⟨x7,σ7,H7,I7.unpinned,r7,q7⟩
end
end L2
namespace L2
open PySem PySem.Spec PyProof.Rows
abbrev R2:=V→V→Hp→VK→Prop
def OpR(X:Cx)(f:Value→Value→Sem Value)(r:R2):Prop:=
 ∀(pins:List (Addr×Obj)) (s:Shared) (σ:St) (H:Hp) (x y:V) (v u:Value) (Q:VK),Inv X pins σ H s→RelV x v→RelV y u→r x y H Q→
  wpAny (model X.prog X.w) X.A (f v u) (EP X pins σ Q) X.xe s
def Iw(X:Cx)(f:Value→Sem Value)(r:V→Hp→VK→Prop):Prop:=
 ∀(pins:List (Addr×Obj)) (s:Shared) (σ:St) (H:Hp) (x:V) (v:Value) (Q:VK),Inv X pins σ H s→RelV x v→r x H Q→
  wpAny (model X.prog X.w) X.A (f v) (EP X pins σ Q) X.xe s
def CallR(X:Cx)(f:Value)(r:List V→Hp→VK→Prop):Prop:=
 ∀(pins:List (Addr×Obj)) (s:Shared) (σ:St) (H:Hp) (xs:List V) (us:List Value) (Q:VK),Inv X pins σ H s→Vals xs us→r xs H Q→
  wpAny (model X.prog X.w) X.A (call f us) (EP X pins σ Q) X.xe s
def Ix(X:Cx)(r:V→Hp→(Bool→Hp→Prop)→Prop):Prop:=
 ∀(pins:List (Addr×Obj)) (s:Shared) (σ:St) (H:Hp) (x:V) (v:Value) (Q:Bool→Hp→Prop),Inv X pins σ H s→RelV x v→r x H Q→
  wpAny (model X.prog X.w) X.A (truthy v) (TP X pins σ Q) X.xe s
def EC(r:R2)(ta tb:TE):TE:=fun σ H Q=>ta σ H fun x H1=>tb σ H1 fun y H2=>r x y H2 Q
def JA(r:V→Hp→VK→Prop)(ta:TE):TE:=fun σ H Q=>ta σ H fun x H1=>r x H1 Q
def rI(C:Int→Int→Prop)(g:Int→Int→V):R2:=fun x y H Q=>∃i j,x=.int i∧y=.int j∧C i j∧Q (g i j) H
def B9(g:Int→Int→V):R2:=fun x y H Q=>∃i j,x=.int i∧y=.int j∧Q (g i j) H
def rU(g:Int→V):V→Hp→VK→Prop:=fun x H Q=>∃i,x=.int i∧Q (g i) H
section
variable {X:Cx} {a b c:Expr} {ta tb tc:TE} {pos:Pos}
theorem ED(ha:PE X a ta)(hb:PE X b tb){s:Shared}{σ:St}{R:V→V→Hp→Prop}(I:Inv X pins σ H s)
  (h:ta σ H fun x H1=>tb σ H1 fun y H2=>R x y H2)  {f:Value→Value→Sem Value}
  (hf:∀v u s2 x y H2,Inv X pins σ H2 s2→RelV x v→RelV y u→R x y H2→wpAny (model X.prog X.w) X.A (f v u) Q X.xe s2):
  wpAny (model X.prog X.w) X.A (eval a X.env) (fun v s₁=>wpAny (model X.prog X.w) X.A (eval b X.env) (fun u s₂=>wpAny (model X.prog X.w) X.A (f v u) Q X.xe s₂) X.xe s₁) X.xe s:=by
 refine ce (ha pins s σ H _ I h) fun v s1 ⟨x,H1,I1,r1,q1⟩=>?_
 refine ce (hb pins s1 σ H1 _ I1 q1) fun u s2 ⟨y,H2,I2,r2,q2⟩=>?_
 exact hf v u s2 x y H2 I2 r1 r2 q2
theorem GG{op:Operator}{r:R2}(ho:OpR X (binaryOp op) r)(ha:PE X a ta)(hb:PE X b tb):PE X (.BinOp a op b pos) (EC r ta tb):=by
 intro pins s σ H Q I h
 exact wpAny_BinOp (ED ha hb I h fun v u s2 x y H2 I2 rx ry q=>ho pins s2 σ H2 x y v u Q I2 rx ry q)
theorem GH{op:UnaryOp}{r:V→Hp→VK→Prop}(ho:Iw X (unaryOp op) r)(ha:PE X a ta):PE X (.UnaryOp op a pos) (JA r ta):=by
 intro pins s σ H Q I h
 exact UnaryOp_ (ce (ha pins s σ H _ I h) fun v s1 ⟨x,H1,I1,r1,q1⟩=>ho pins s1 σ H1 x v Q I1 r1 q1)
theorem H0{f:Value→Value→Sem Value}{C:Int→Int→Prop}{g:Int→Int→Int}
  (rule:∀(i j:Int) (t u:Tok) (s:Shared) (Q:Value→Shared→Prop) (E:Value→Shared→Prop),C i j→Q (.int (g i j) s.toks) {s with toks:=s.toks+1}→wpAny (model X.prog X.w) X.A (f (.int i t) (.int j u)) Q E s):
  OpR X f (rI C fun i j=>.int (g i j)):=by
 intro pins s σ H x y v u Q I rx ry h
 obtain⟨i,j,rfl,rfl,hc,q⟩:=h
 obtain⟨t,rfl⟩:=rx
 obtain⟨t',rfl⟩:=ry
 exact rule i j t t' s _ _ hc ⟨.int (g i j),H,I.tok _,⟨_,rfl⟩,q⟩
theorem EE{f:Value→Value→Sem Value}{g:Int→Int→Int}
  (rule:∀(i j:Int) (t u:Tok) (s:Shared) (Q:Value→Shared→Prop) (E:Value→Shared→Prop),Q (.int (g i j) s.toks) {s with toks:=s.toks+1}→wpAny (model X.prog X.w) X.A (f (.int i t) (.int j u)) Q E s):
  OpR X f (B9 fun i j=>.int (g i j)):=by
 intro pins s σ H x y v u Q I rx ry h
 obtain⟨i,j,rfl,rfl,q⟩:=h
 obtain⟨t,rfl⟩:=rx
 obtain⟨t',rfl⟩:=ry
 exact rule i j t t' s _ _ ⟨.int (g i j),H,I.tok _,⟨_,rfl⟩,q⟩
theorem B_{f:Value→Value→Sem Value}{g:Int→Int→Bool}
  (rule:∀(i j:Int) (t u:Tok) (s:Shared) (Q:Value→Shared→Prop) (E:Value→Shared→Prop),Q (.bool (g i j)) s→wpAny (model X.prog X.w) X.A (f (.int i t) (.int j u)) Q E s):
  OpR X f (B9 fun i j=>.bl (g i j)):=by
 intro pins s σ H x y v u Q I rx ry h
 obtain⟨i,j,rfl,rfl,q⟩:=h
 obtain⟨t,rfl⟩:=rx
 obtain⟨t',rfl⟩:=ry
 exact rule i j t t' s _ _ ⟨.bl (g i j),H,I,rfl,q⟩
def GI(i j:Int):Prop:=0≤j∧j≤1000000∧i.natAbs < 2 ^ 64
def CMul(i j:Int):Prop:=(-(2 ^ 64) < i∧i < 2 ^ 64)∨(-(2 ^ 64) < j∧j < 2 ^ 64)
theorem CMul.ok{i j:Int}(h:CMul i j):IntMulOk i j:=by
 rcases h with⟨h1,h2⟩ |⟨h1,h2⟩
 ·exact .of_left (intBits_le_64 h1 h2)
 ·exact .of_right (intBits_le_64 h1 h2)
theorem EF:OpR X (binaryOp .Add) (B9 fun i j=>.int (i+j)):=EE fun _ _ _ _ _ _ _ q=>add_int q
theorem EG:OpR X (binaryOp .Sub) (B9 fun i j=>.int (i - j)):=EE fun _ _ _ _ _ _ _ q=>sub_int q
theorem EH:OpR X (binaryOp .Mod) (rI (fun _ j=>0 < j) fun i j=>.int (i % j)):=H0 fun i j _ _ _ _ _ hc q=>by
 have h1:(0:Int) < j:=hc
 exact mod_int' (by omega) (by rw[Int.fmod_eq_emod_of_nonneg i (by omega)];exact q)
theorem EI:OpR X (binaryOp .Pow) (rI GI fun i j=>.int (i ^ j.toNat)):=H0 fun _ _ _ _ _ _ _ hc q=>pow_int_small hc.1 hc.2.1 hc.2.2 q
theorem EJ:OpR X (binaryOp .BitAnd) (B9 fun i j=>.int (Builtin.bitAnd i j)):=EE fun _ _ _ _ _ _ _ q=>and_int q
theorem JB{f:Value→Sem Value}{g:Int→Int}
  (rule:∀(i:Int) (t:Tok) (s:Shared) (Q:Value→Shared→Prop) (E:Value→Shared→Prop),Q (.int (g i) s.toks) {s with toks:=s.toks+1}→wpAny (model X.prog X.w) X.A (f (.int i t)) Q E s):
  Iw X f (rU fun i=>.int (g i)):=by
 intro pins s σ H x v Q I rx h
 obtain⟨i,rfl,q⟩:=h
 obtain⟨t,rfl⟩:=rx
 exact rule i t s _ _ ⟨.int (g i),H,I.tok _,⟨_,rfl⟩,q⟩
theorem EK:Iw X (unaryOp .USub) (rU fun i=>.int (-i)):=JB fun _ _ _ _ _ q=>neg_int q
end
def EL:V→V→Bool
 |.non,.non=>true |.non,.int _=>true |.int _,.non=>true |.non,.bl _=>true |.bl _,.non=>true |.non,.str _=>true |.str _,.non=>true
 |.int _,.int _=>true |.bl _,.bl _=>true |.str _,.str _=>true |.byt _,.byt _=>true
 |.int _,.str _=>true |.str _,.int _=>true |.bl _,.str _=>true |.str _,.bl _=>true
 |_,_=>false
def Jq:R2:=fun x y H Q=>EL x y=true∧Q (.bl (decide (x=y))) H
def Jr:R2:=fun x y H Q=>EL x y=true∧Q (.bl (!decide (x=y))) H
theorem vO{i j:Int}:decide (V.int i=V.int j)=(i == j):=by
 rw[Bool.eq_iff_iff]
 simp
theorem zL{i j:Bool}:decide (V.bl i=V.bl j)=(i == j):=by
 rw[Bool.eq_iff_iff]
 simp
theorem vP{i j:Str}:decide (V.str i=V.str j)=(i == j):=by
 rw[Bool.eq_iff_iff]
 simp
theorem vQ{i j:Array UInt8}:decide (V.byt i=V.byt j)=(i.toList == j.toList):=by
 rw[Bool.eq_iff_iff]
 cases i
 cases j
 simp
section
variable {X:Cx} {a b c:Expr} {ta tb tc:TE} {pos:Pos}
theorem a5{σ:St}{s:Shared}{Q:VK}{k k':Bool}(I:Inv X pins σ H s)(q:Q (.bl k) H)(e:k=k'):EP X pins σ Q (.bool k') s:=by
 subst e
 exact⟨.bl k,H,I,rfl,q⟩
theorem DQ:OpR X (compareOp .Eq) Jq:=by
 intro pins s σ H x y v u Q I rx ry h
 obtain⟨hs,q⟩:=h
 cases x with
 |non=>
  cases rx
  cases y with
  |non=>cases ry;exact PySem.EqNone.eq_none_none (a5 I q (by simp))
  |bl j=>cases ry;exact PySem.EqNone.eq_none_bool (a5 I q (by simp))
  |int j=>obtain⟨t',rfl⟩:=ry;exact PySem.EqNone.eq_none_int (a5 I q (by simp))
  |str j=>obtain⟨t',rfl⟩:=ry;exact PySem.EqNone.eq_none_str (a5 I q (by simp))
  |_=>exact absurd (show false=true from hs) p8
 |bl i=>
  cases rx
  cases y with
  |non=>cases ry;exact PySem.EqNone.eq_bool_none (a5 I q (by simp))
  |bl j=>cases ry;exact eq_bool (a5 I q zL)
  |str j=>obtain⟨t',rfl⟩:=ry;exact PySem.EqMixed.eq_bool_str (a5 I q (by simp))
  |_=>exact absurd (show false=true from hs) p8
 |int i=>
  obtain⟨t,rfl⟩:=rx
  cases y with
  |non=>cases ry;exact PySem.EqNone.eq_int_none (a5 I q (by simp))
  |int j=>obtain⟨t',rfl⟩:=ry;exact eq_int (a5 I q vO)
  |str j=>obtain⟨t',rfl⟩:=ry;exact PySem.EqMixed.eq_int_str (a5 I q (by simp))
  |_=>exact absurd (show false=true from hs) p8
 |str i=>
  obtain⟨t,rfl⟩:=rx
  cases y with
  |non=>cases ry;exact PySem.EqNone.eq_str_none (a5 I q (by simp))
  |bl j=>cases ry;exact PySem.EqMixed.eq_str_bool (a5 I q (by simp))
  |int j=>obtain⟨t',rfl⟩:=ry;exact PySem.EqMixed.eq_str_int (a5 I q (by simp))
  |str j=>obtain⟨t',rfl⟩:=ry;exact eq_str (a5 I q vP)
  |_=>exact absurd (show false=true from hs) p8
 |byt i=>
  obtain⟨t,rfl⟩:=rx
  cases y with
  |byt j=>obtain⟨t',rfl⟩:=ry;exact PySem.W.eq_bytes (a5 I q vQ)
  |_=>exact absurd (show false=true from hs) p8
 |_=>cases y <;> exact absurd (show false=true from hs) p8
theorem GJ:OpR X (compareOp .NotEq) Jr:=by
 intro pins s σ H x y v u Q I rx ry h
 obtain⟨hs,q⟩:=h
 cases x with
 |non=>
  cases rx
  cases y with
  |non=>cases ry;exact PySem.EqNone.ne_none_none (a5 I q (by simp))
  |bl j=>cases ry;exact PySem.EqNone.ne_none_bool (a5 I q (by simp))
  |int j=>obtain⟨t',rfl⟩:=ry;exact PySem.EqNone.ne_none_int (a5 I q (by simp))
  |str j=>obtain⟨t',rfl⟩:=ry;exact PySem.EqNone.ne_none_str (a5 I q (by simp))
  |_=>exact absurd (show false=true from hs) p8
 |bl i=>
  cases rx
  cases y with
  |non=>cases ry;exact PySem.EqNone.ne_bool_none (a5 I q (by simp))
  |bl j=>cases ry;exact ne_bool (a5 I q (congrArg not zL))
  |str j=>obtain⟨t',rfl⟩:=ry;exact PySem.EqMixed.ne_bool_str (a5 I q (by simp))
  |_=>exact absurd (show false=true from hs) p8
 |int i=>
  obtain⟨t,rfl⟩:=rx
  cases y with
  |non=>cases ry;exact PySem.EqNone.ne_int_none (a5 I q (by simp))
  |int j=>obtain⟨t',rfl⟩:=ry;exact ne_int (a5 I q (congrArg not vO))
  |str j=>obtain⟨t',rfl⟩:=ry;exact PySem.EqMixed.ne_int_str (a5 I q (by simp))
  |_=>exact absurd (show false=true from hs) p8
 |str i=>
  obtain⟨t,rfl⟩:=rx
  cases y with
  |non=>cases ry;exact PySem.EqNone.ne_str_none (a5 I q (by simp))
  |bl j=>cases ry;exact PySem.EqMixed.ne_str_bool (a5 I q (by simp))
  |int j=>obtain⟨t',rfl⟩:=ry;exact PySem.EqMixed.ne_str_int (a5 I q (by simp))
  |str j=>obtain⟨t',rfl⟩:=ry;exact ne_str (a5 I q (congrArg not vP))
  |_=>exact absurd (show false=true from hs) p8
 |byt i=>
  obtain⟨t,rfl⟩:=rx
  cases y with
  |byt j=>obtain⟨t',rfl⟩:=ry;exact PySem.W.ne_bytes (a5 I q (congrArg not vQ))
  |_=>exact absurd (show false=true from hs) p8
 |_=>cases y <;> exact absurd (show false=true from hs) p8
theorem GK:OpR X (compareOp .Lt) (B9 fun i j=>.bl (decide (i < j))):=B_ fun _ _ _ _ _ _ _ q=>lt_int q
theorem GL:OpR X (compareOp .LtE) (B9 fun i j=>.bl (decide (i≤j))):=B_ fun _ _ _ _ _ _ _ q=>le_int q
theorem GM:OpR X (compareOp .Gt) (B9 fun i j=>.bl (decide (j < i))):=B_ fun _ _ _ _ _ _ _ q=>gt_int q
theorem GN:OpR X (compareOp .GtE) (B9 fun i j=>.bl (decide (j≤i))):=B_ fun _ _ _ _ _ _ _ q=>ge_int q
theorem wZ:OpR X (compareOp .Lt) (fun x y H Q=>∃i j,x=.str i∧y=.str j∧Q (.bl (decide (i.cps.toList < j.cps.toList))) H):=by
 intro pins s σ H x y v u Q I rx ry h
 obtain⟨i,j,rfl,rfl,q⟩:=h
 obtain⟨t,rfl⟩:=rx
 obtain⟨t',rfl⟩:=ry
 exact lt_str (a5 I q rfl)
theorem w_:OpR X (compareOp .In) (fun x y H Q=>∃i j,x=.str i∧y=.str j∧Q (.bl (!(Builtin.Str.occurrences j i 0 j.length 1).isEmpty)) H):=by
 intro pins s σ H x y v u Q I rx ry h
 obtain⟨i,j,rfl,rfl,q⟩:=h
 obtain⟨t,rfl⟩:=rx
 obtain⟨t',rfl⟩:=ry
 exact in_str (a5 I q rfl)
theorem OpR.or{f:Value→Value→Sem Value}{r r':R2}(h:OpR X f r)(h':OpR X f r'):OpR X f (fun x y H Q=>r x y H Q∨r' x y H Q):=by
 intro pins s σ H x y v u Q I rx ry q
 rcases q with q |q
 ·exact h pins s σ H x y v u Q I rx ry q
 ·exact h' pins s σ H x y v u Q I rx ry q
theorem qc(b:Expr){op:CmpOp}(h:op≠ .In:=by decide)(h2:op≠ .NotIn:=by decide):behindInMarks op b=false:=by
 have e1:(op == CmpOp.In)=false:=by cases op <;> first |rfl |exact absurd rfl h
 have e2:(op == CmpOp.NotIn)=false:=by cases op <;> first |rfl |exact absurd rfl h2
 cases b <;> simp[behindInMarks,e1,e2]
theorem Ca{op:CmpOp}{r:R2}(ho:OpR X (compareOp op) r)(ha:PE X a ta)(hb:PE X b tb)(hm:behindInMarks op b=false):PE X (.Compare a [op] [b] pos) (EC r ta tb):=by
 intro pins s σ H Q I h
 exact wpAny_Compare1 (ED ha hb I h fun v u s2 x y H2 I2 rx ry q=>ho pins s2 σ H2 x y v u Q I2 rx ry q) hm
def DR(t:TE):TT:=fun σ H Q=>t σ H fun x H'=>∃k,x=.bl k∧Q k H'
theorem Cb{op:CmpOp}{r:R2}(ho:OpR X (compareOp op) r)(ha:PE X a ta)(hb:PE X b tb)(hm:behindInMarks op b=false):PT X (.Compare a [op] [b] pos) (DR (EC r ta tb)):=by
 intro pins s σ H Q I h
 refine wpAny_isTrue_Compare1 (ce (ha pins s σ H _ I h) fun v s1 ⟨x,H1,I1,r1,q1⟩=>ce (hb pins s1 σ H1 _ I1 q1) fun u s2 ⟨y,H2,I2,r2,q2⟩=>
  ce (ho pins s2 σ H2 x y v u _ I2 r1 r2 q2) fun c s3 ⟨z,H3,I3,r3,k,e,q3⟩=>?_) hm
 subst e
 cases r3
 exact wpAny_truthy_bool ⟨H3,I3,q3⟩
def tO(r r':R2)(ta tb tc:TE):TE:=fun σ H Q=>ta σ H fun x H1=>tb σ H1 fun y H2=>r x y H2 fun z H3=>∃k,z=.bl k∧
 (if k=true then tc σ H3 fun w' H4=>r' y w' H4 Q else Q (.bl false) H3)
theorem zM{op op':CmpOp}{r r':R2}(ho:OpR X (compareOp op) r)(ho':OpR X (compareOp op') r')(ha:PE X a ta)(hb:PE X b tb)(hc:PE X c tc)
  (hm:lastMarks [op,op'] [b,c]=false:=by with_unfolding_all rfl):PE X (.Compare a [op,op'] [b,c] pos) (tO r r' ta tb tc):=by
 intro pins s σ H Q I h
 refine Compare_chain (ce (ha pins s σ H _ I h) fun v s1 ⟨x,H1,I1,r1,q1⟩=>chain_link (ce (hb pins s1 σ H1 _ I1 q1) fun u s2 ⟨y,H2,I2,r2,q2⟩=>
  ce (ho pins s2 σ H2 x y v u _ I2 r1 r2 q2) fun d s3 ⟨z,H3,I3,r3,k,e,q3⟩=>?_)) hm
 subst e
 cases r3
 refine wpAny_truthy_bool ?_
 cases k with
 |false=>exact ite_ff ⟨.bl false,H3,I3,rfl,q3⟩
 |true=>exact ite_tt (chain_last (ce (hc pins s3 σ H3 _ I3 q3) fun w' s4 ⟨z',H4,I4,r4,q4⟩=>ho' pins s4 σ H4 y z' u w' Q I4 r2 r4 q4))
theorem zN{op op':CmpOp}{r r':R2}(ho:OpR X (compareOp op) r)(ho':OpR X (compareOp op') r')(ha:PE X a ta)(hb:PE X b tb)(hc:PE X c tc)
  (hm:lastMarks [op,op'] [b,c]=false:=by with_unfolding_all rfl):PT X (.Compare a [op,op'] [b,c] pos) (DR (tO r r' ta tb tc)):=by
 intro pins s σ H Q I h
 refine isTrue_chain (ce (ha pins s σ H _ I h) fun v s1 ⟨x,H1,I1,r1,q1⟩=>test_link (ce (hb pins s1 σ H1 _ I1 q1) fun u s2 ⟨y,H2,I2,r2,q2⟩=>
  ce (ho pins s2 σ H2 x y v u _ I2 r1 r2 q2) fun d s3 ⟨z,H3,I3,r3,k,e,q3⟩=>?_)) hm
 subst e
 cases r3
 refine wpAny_truthy_bool ?_
 cases k with
 |false=>
  obtain⟨k',e',q'⟩:=q3
  cases e'
  exact ite_ff ⟨H3,I3,q'⟩
 |true=>
  refine ite_tt (test_last (ce (hc pins s3 σ H3 _ I3 q3) fun w' s4 ⟨z',H4,I4,r4,q4⟩=>ce (ho' pins s4 σ H4 y z' u w' _ I4 r2 r4 q4) fun d' s5 ⟨z2,H5,I5,r5,k2,e2,q5⟩=>?_))
  subst e2
  cases r5
  exact wpAny_truthy_bool ⟨H5,I5,q5⟩
def zO(K:Frag)(x:V)(H:Hp)(k:Bool):Prop:=
 match x with
 |.non=>k=false
 |.bl b=>k=b
 |.int i=>k=(i != 0)
 |.str y=>y.length≤sizeLine∧k=((y.length:Int) != 0)
 |.byt y=>y.size≤sizeLine∧k=((y.size:Int) != 0)
 |.ref p=>(∃xs,SqL K H p xs∧k= !xs.isEmpty)∨(∃xs,SqT K H p xs∧k= !xs.isEmpty)∨∃kvs,H p=some (.dK kvs)∧k= !kvs.isEmpty
 |_=>False
theorem tP{κ:Type}{kvs:List (κ×V)}{vs:List (κ×Value)}(r:KV kvs vs):(!vs.isEmpty)= !kvs.isEmpty:=by
 cases r <;> rfl
theorem nw(r:Vals xs its):(!its.toArray.isEmpty)= !xs.isEmpty:=by
 cases r <;> simp
theorem lO:(sizeLine:Nat) < 2 ^ 63:=by rw[sizeLine_eq];decide
theorem EM:Ix X (fun x H Q=>∃k,zO X.K x H k∧Q k H):=by
 intro pins s σ H x v Q I rx h
 obtain⟨k,e,q⟩:=h
 have hl:=lO
 have hs:sizeLine=16777216:=sizeLine_eq
 cases x with
 |non=>
  cases rx
  have e':k=false:=e
  subst e'
  exact truthy_none ⟨H,I,q⟩
 |bl b=>
  cases rx
  have e':k=b:=e
  subst e'
  exact wpAny_truthy_bool ⟨H,I,q⟩
 |int i=>
  obtain⟨t,rfl⟩:=rx
  have e':k=(i != 0):=e
  subst e'
  exact PySem.P.truthy_int ⟨H,I,q⟩
 |str y=>
  obtain⟨t,rfl⟩:=rx
  obtain⟨hy,e'⟩:y.length≤sizeLine∧k=((y.length:Int) != 0):=e
  subst e'
  exact PySem.P.truthy_str (by omega) ⟨H,I.tok _,q⟩
 |byt y=>
  obtain⟨t,rfl⟩:=rx
  obtain⟨hy,e'⟩:y.size≤sizeLine∧k=((y.size:Int) != 0):=e
  subst e'
  exact PySem.W.truthy_bytes (by omega) ⟨H,I.tok _,q⟩
 |ref p=>
  cases rx
  have e':(∃xs,SqL X.K H p xs∧k= !xs.isEmpty)∨(∃xs,SqT X.K H p xs∧k= !xs.isEmpty)∨∃kvs,H p=some (.dK kvs)∧k= !kvs.isEmpty:=e
  rcases e' with⟨xs,hx,e'⟩ |⟨xs,hx,e'⟩ |⟨kvs,hx,e'⟩
  ·subst e'
   obtain⟨its,r,pl,hz⟩:=I.list hx
   have hlen:=r.length
   exact wpAny_truthy_list pl.isList (by simp only[mz];omega) ⟨H,I.tok _,by rw[nw r];exact q⟩
  ·subst e'
   obtain⟨its,r,pl,hz⟩:=I.tuple hx
   have hlen:=r.length
   exact truthy_tuple pl (by simp only[mz];omega) ⟨H,I.tok _,by rw[nw r];exact q⟩
  ·subst e'
   obtain⟨hz,hS,vs,r,m⟩:kvs.length≤sizeLine∧(p == sysModules)=false∧∃vs,KV kvs vs∧s.heap.DictOf (mZ X.prog X.w) p vs:=I.hok p _ hx
   have hlen:kvs.length=vs.length:=Paired.length r
   exact wpAny_truthy_dict hS m (by omega) ⟨H,I.tok _,by rw[tP r];exact q⟩
 |_=>exact(show False from e).elim
theorem zP(ha:PE X a ta)(he:∀whole,isTrue a X.env whole=(do let v ←whole;standAt a.pos;holding [v] (truthy v))):
  PT X a (fun σ H Q=>ta σ H fun x H'=>∃k,zO X.K x H' k∧Q k H'):=by
 intro pins s σ H Q I h
 exact isTrue_plain (ce (ha pins s σ H _ I h) fun v s1 ⟨x,H1,I1,r1,q1⟩=>EM pins s1 σ H1 x v Q I1 r1 q1) (he _)
theorem tQ:OpR X (binaryOp .Add) (fun x y H Q=>∃i j,x=.str i∧y=.str j∧i.length+j.length≤sizeLine∧Q (.str (i++j)) H):=by
 intro pins s σ H x y v u Q I rx ry h
 obtain⟨i,j,rfl,rfl,hz,q⟩:=h
 obtain⟨t,rfl⟩:=rx
 obtain⟨t',rfl⟩:=ry
 exact add_str (fun t' tk=>⟨.str (i++j),H,I.tok _,⟨_,rfl⟩,q⟩) hz
theorem zQ{x:V}(r:Vals [x] us):∃u,us=[u]∧RelV x u:=by
 cases r with
 |cons r1 r2=>cases r2;exact⟨_,rfl,r1⟩
end
end L2
variable {r r':L2.R2}
namespace L2
open PySem PySem.Spec PyProof.Rows
structure ObjM (h:Heap) (x dx C:Addr) (mA:Str→Option Value):Prop where
 obj:h.get? x=some (instObj C dx)
 ns:h.Ns1 dx mA
 ne:dx≠x
theorem xA{dx:Addr}{mA:Str→Option Value}(n:h.Ns1 dx mA):∃od,h.get? dx=some od∧∀name,lookIn name od=some (mA name):=by
 obtain⟨o,es,ep,ho,hd,hk,_,hm⟩:=n
 refine⟨o,ho,fun name=>?_⟩
 have e:=hm name
 unfold nsFind findBy at e
 rw[←Array.find?_toList]at e
 unfold lookIn
 rw[hd]
 dsimp only
 split
 ·rename_i y q
  rw[q]at e
  exact congrArg some e
 ·rename_i q
  rw[q]at e
  have a:es.toList.any (·.refKey)=false:=by
   rw[List.any_eq_false]
   intro y hy
   obtain⟨z,t,hkey⟩:=hk y (Array.mem_toList_iff.mp hy)
   simp[DictEntry.refKey,hkey]
  have a':¬es.toList.any (·.refKey)=true:=by rw[a];exact p8
  rw[if_neg a']
  exact congrArg some e
theorem ObjM.look{x dx:Addr}{mA:Str→Option Value}(I:ObjM h x dx C mA):∃od,PySem.W.InstAt h x (instObj C dx) C (some od)∧∀name,lookIn name od=some (mA name):=
 let ⟨od,ho,hl⟩:=xA I.ns
 ⟨od,⟨I.obj,rfl,rfl,ho⟩,hl⟩
section
variable {P:Program} {w:World} {H H':Hp} {h h':Heap} {a C dx:Addr} {fs fs':List (Str×V)}
theorem Cd(hok:HOk P w H h)(e:H a=some (.ins C dx fs)):∃mA,ObjM h a dx C mA∧(∀f,En (fs.lookup f) (mA f))∧PySem.Within mA (fs.map (·.1))∧fs.length≤1000∧H dx=some (.own a):=by
 obtain⟨d,z,ne,ob,mA,n,r,q⟩:=(show ObjOk P w H h a (.ins C dx fs)from hok a _ e)
 exact⟨mA,⟨ob,n,ne⟩,r,q,z,d⟩
end
structure Cls (K:Frag) (C:Addr):Prop where
 pg:PySem.W.plainGet K C Str.empty=true
 hd:PySem.W.hasDictIn K C=true
 po:PySem.W.plainOver K C=true
 sa:findIn K (.ref C) "__setattr__"=some (some (.builtin "object.__setattr__"))
theorem Cls.get{K:Frag}(c:Cls K C)(f:Str):PySem.W.plainGet K C f=true:=c.pg
section
variable {X:Cx} {pins:List (Addr×Obj)} {σ:St} {H:Hp} {s:Shared} {A:Around} {E:Value→Shared→Prop} {Q:Value→Shared→Prop} {c:Value} {b:Bool}
inductive TyOf (K:Frag) (H:Hp):V→Value→Prop where
 |non:TyOf K H .non (.type "NoneType")
 |bl (x:Bool):TyOf K H (.bl x) (.type "bool")
 |int (i:Int):TyOf K H (.int i) (.type "int")
 |str (x:Str):TyOf K H (.str x) (.type "str")
 |flt (x:UInt64):TyOf K H (.flt x) (.type "float")
 |lst {a:Addr} {xs:List V} (e:H a=some (.lst xs)):TyOf K H (.ref a) (.type "list")
 |frz {a:Addr} {o:Obj} {xs:List V} (e:H a=some (.frz o (.lst xs))):TyOf K H (.ref a) (.type "list")
 |tup {a:Addr} {xs:List V} (e:H a=some (.tup xs)):TyOf K H (.ref a) (.type "tuple")
 |dK {a:Addr} {kvs:List (iQ×V)} (e:H a=some (.dK kvs)):TyOf K H (.ref a) (.type "dict")
 |dT {a:Addr} {kvs:List (List iQ×V)} (e:H a=some (.dT kvs)):TyOf K H (.ref a) (.type "dict")
 |ins {a C dx:Addr} {fs:List (Str×V)} (e:H a=some (.ins C dx fs)) (cl:Cls K C) (ha:findIn K (.ref C) "__class__"=some (some (.builtin "object.__class__")))
   (hn:PySem.W.specialIn K (.builtin "object.__class__") "__get__"=some (some (.builtin "getset_descriptor.__get__"))) (htk:PySem.W.takesIn K (.builtin "object.__class__")=some true)
   (hm:mroIn K C (.type "object")=some true):TyOf K H (.ref a) (.ref C)
theorem jK{x:V}{u t:Value}(I:Inv X pins σ H s)(rx:RelV x u)(ty:TyOf X.K H x t)(e:kitOne X.K t c=some b)(h:∀tk,Q (.bool b) {s with toks:=tk}):
  wpAny (model X.prog X.w) A (call (.builtin "isinstance") [u,c]) Q E s:=by
 cases ty with
 |non=>cases(show u=Value.none from rx);exact kia_one PySem.W.kitx_none I.kIn True.intro e (fun z=>nomatch z) h
 |bl y=>cases(show u=Value.bool y from rx);exact kia_one PySem.W.kitx_bool I.kIn True.intro e (fun z=>nomatch z) h
 |int i=>obtain⟨t,q⟩:=(show ∃t,u=Value.int i t from rx);cases q;exact kia_one PySem.W.kitx_int I.kIn True.intro e (fun z=>nomatch z) h
 |str y=>obtain⟨t,q⟩:=(show ∃t,u=Value.str y t from rx);cases q;exact kia_one PySem.W.kitx_str I.kIn True.intro e (fun z=>nomatch z) h
 |flt y=>obtain⟨t,q⟩:=(show ∃t,u=Value.float y t from rx);cases q;exact kia_one PySem.W.kitx_float I.kIn True.intro e (fun z=>nomatch z) h
 | @lst a xs ea=>
  cases(show u=Value.ref a from rx)
  obtain⟨_,_,n,_,h1⟩:=(show ObjOk X.prog X.w H s.heap a (.lst xs)from I.hok a _ ea)
  exact kia_one kitx_list I.kIn ⟨_,h1,rfl⟩ e (fun z=>nomatch z) h
 | @frz a ob xs ea=>
  cases(show u=Value.ref a from rx)
  obtain⟨_,_,_,n,_,h1⟩:=(show ObjOk X.prog X.w H s.heap a (.frz ob (.lst xs))from I.hok a _ ea)
  exact kia_one kitx_list I.kIn ⟨_,h1,rfl⟩ e (fun z=>nomatch z) h
 | @tup a xs ea=>
  cases(show u=Value.ref a from rx)
  obtain⟨_,_,_,p⟩:=(show ObjOk X.prog X.w H s.heap a (.tup xs)from I.hok a _ ea)
  obtain⟨o,h1,h2,_⟩:=p
  exact kia_one PySem.W.kitx_tuple I.kIn ⟨o,h1,h2⟩ e (fun z=>nomatch z) h
 | @dK a kvs ea=>
  cases(show u=Value.ref a from rx)
  obtain⟨_,_,vs,_,p⟩:=(show ObjOk X.prog X.w H s.heap a (.dK kvs)from I.hok a _ ea)
  obtain⟨o,es,ep,h1,h2,_⟩:=p
  exact kia_one kitx_dict I.kIn ⟨o,h1,h2.1⟩ e (fun z=>nomatch z) h
 | @dT a kvs ea=>
  cases(show u=Value.ref a from rx)
  obtain⟨_,_,xs,_,o,es,ep,h1,h2,_⟩:=(show ObjOk X.prog X.w H s.heap a (.dT kvs)from I.hok a _ ea)
  exact kia_one kitx_dict I.kIn ⟨o,h1,h2.1⟩ e (fun z=>nomatch z) h
 | @ins a C dx fs ea cl ha hn htk hm=>
  cases(show u=Value.ref a from rx)
  obtain⟨mA,O,_⟩:=Cd I.hok ea
  obtain⟨od,J,_⟩:=O.look
  exact kia_one (PySem.W.kitx_own (cl.get _) cl.hd ha hn htk hm) I.kIn J e (fun z=>nomatch z) h
end
end L2
namespace L2
open PySem PySem.Spec PyProof.Rows
structure Room (k:Nat) (A:Around):Prop where
 hd:A.handled=none
 dp:A.depth+3*k+5 < recursionLimit
 un:A.units+16*k+200 < cLine
theorem Room.mono{A:Around}(r:Room k A)(h:j≤k):Room j A:=⟨r.hd,by have:=r.dp;omega,by have:=r.un;omega⟩
theorem Room.deeper{A:Around}(r:Room (k+1) A)(env:Env):Room k (A.deeper env):=
 ⟨r.hd,by have:=r.dp;show A.depth+1+3*k+5 < _;omega,by have:=r.un;show A.units+3+16*k+200 < _;omega⟩
theorem Room.depth{A:Around}(r:Room k A):A.depth < recursionLimit:=by have:=r.dp;omega
theorem Room.units{A:Around}(r:Room k A):A.units+64 < cLine:=by have:=r.un;omega
def Iy:TA:=fun _ H Q=>Q [] H
def rn(ta:TE)(tr:TA):TA:=fun σ H Q=>ta σ H fun x H1=>tr σ H1 fun xs H2=>Q (x::xs) H2
section
variable {X:Cx} {e:Expr} {es:List Expr} {te:TE} {t:TA} {pos:Pos}
theorem eJ:PA X [] Iy:=fun _ _ _ _ H Q I h=>Calls.spliced_nil ⟨[],H,I,.nil,h⟩
theorem cP(ha:PE X e te)(hr:PA X es t)(hs:starEach (e::es) X.env=(false,eval e X.env)::starEach es X.env:=by rfl):PA X (e::es) (rn te t):=by
 intro pos pins s σ H Q I h
 rw[hs]
 show wpAny _ _ (spliced ((false,eval e X.env)::backTo pos (starEach es X.env))) _ _ s
 refine Calls.spliced_cons (ce (ha pins s σ H _ I h) fun u s1 ⟨x,H1,I1,r1,q1⟩=>?_)
 exact ce (hr pos pins s1 σ H1 _ I1 q1) fun us s2 ⟨xs,H2,I2,r2,q2⟩=>⟨x::xs,H2,I2,.cons r1 r2,q2⟩
def Iz(t:TA):TE:=fun σ H Q=>t σ H fun xs H1=>xs.length≤sizeLine∧∀p,H1 p=none→Q (.ref p) (upd H1 p (.tup xs))
def IB(t:TA):TE:=fun σ H Q=>t σ H fun xs H1=>xs.length≤sizeLine∧∀p,H1 p=none→Q (.ref p) (upd H1 p (.lst xs))
theorem EN{x1}(h:PA X es t):PE X (.Tuple es x1 pos) (Iz t):=by
 intro pins s σ H Q I hq
 refine wpAny_Tuple_spliced (ce (h pos pins s σ H _ I hq) fun us s1 ⟨xs,H1,I1,r,z,q⟩=>⟨by rw[←r.length];exact z,?_⟩)
 have hf:H1 s1.heap.objs.size=none:=I1.hok.fresh (eD _)
 refine⟨.ref s1.heap.objs.size,upd H1 s1.heap.objs.size (.tup xs),I1.laid (t':=s1.toks) (fun b u e=>eT _ e) (eD _) ?_,rfl,q _ hf⟩
 exact⟨z,us,r,⟨_,kh _ rfl,rfl,_,rfl⟩⟩
theorem EO(h:PA X es t):PE X (.List es pos) (IB t):=by
 intro pins s σ H Q I hq
 refine wpAny_List_spliced (ce (h pos pins s σ H _ I hq) fun us s1 ⟨xs,H1,I1,r,z,q⟩=>⟨by rw[←r.length];exact z,?_⟩)
 have hf:H1 s1.heap.objs.size=none:=I1.hok.fresh (eD _)
 refine⟨.ref s1.heap.objs.size,upd H1 s1.heap.objs.size (.lst xs),I1.laid (t':=s1.toks) (fun b u e=>eT _ e) (eD _) ?_,rfl,q _ hf⟩
 exact⟨z,us,0,r,kh _ rfl⟩
end
abbrev Sp:=List V→Hp→VK→XK→Prop
abbrev zR:=List Env→Hp→Shared→XK→Value→Shared→Prop
structure Env0 (P:Program) (w:World) (K:Frag) (mg:Str→Option Value) (base:Heap) (A:Around) (outer:List Env) (s:Shared) (H:Hp):Prop where
 frames:A.frames=some outer
 mod:Mod K mg base
 bs:∀b o,base.get? b=some o→s.heap.get? b=some o∧H b=none
 bsz:base.objs.size≤s.heap.objs.size
 funs:s.heap.FunFrames base outer
 frf:∀b∈gb outer,H b=none
 hok:HOk P w H s.heap
 bare:AllBare s.gens
 tab:∀b q,hZ K b=some q→H b=some (.tbl q)
def CE(outer:List Env)(P:Program)(w:World)(H:Hp)(s:Shared)(Q:VK)(u:Value)(s':Shared):Prop:=
 ∃v H',s'.os=s.os∧AllBare s'.gens∧Un (gb outer) [] H H' s.heap s'.heap∧HOk P w H' s'.heap∧RelV v u∧Q v H'
def CR(CX:zR)(outer:List Env)(P:Program)(w:World)(H:Hp)(s:Shared)(Q:VK)(E:XK)(r:Result)(s':Shared):Prop:=
 match r with
 |.ok (.ret u)=>CE outer P w H s Q u s'
 |.ok _=>False
 |.error e=>CX outer H s E e s'
structure FnOk (P:Program) (w:World) (K:Frag) (mg:Str→Option Value) (base:Heap) (CX:zR) (k:Nat) (f:Addr) (fd:FuncData) (ps:List Str) (sp:Sp):Prop where
 len:∀vs H Q E,sp vs H Q E→vs.length=ps.length
 run:∀(A:Around) (outer:List Env) (s:Shared) (H:Hp) (args:Args) (us:List Value) (vs:List V) (Q:VK) (E:XK),Room k A→Env0 P w K mg base A outer s H→BindsTo s fd args (ps.zip us)→Vals vs us→sp vs H Q E→
  codeAny (model P w) A (.call (.ref f) args) (CR CX outer P w H s Q E) s
section
variable {X:Cx} {pins:List (Addr×Obj)} {σ:St} {H:Hp} {s s':Shared}
theorem Inv.env0(I:Inv X pins σ H s):Env0 X.prog X.w X.K X.mg X.base X.A X.stack s H:=
 ⟨I.ok.frames,I.ok.mod,I.bs,lL I.ok.bsz I.sz,I.stack,I.stkFree,I.hok,I.bare,I.tab⟩
theorem Inv.after{Q:VK}{u:Value}(I:Inv X pins σ H s)(h:CE X.stack X.prog X.w H s Q u s'):EP X pins σ Q u s':=by
 obtain⟨v,H',os,bare,un,hok,r,q⟩:=h
 obtain⟨hh,g,d,t,os'⟩:=s'
 obtain rfl:os'=s.os:=os
 exact⟨v,H',I.call (h':=hh) (g':=g) (d':=d) (t':=t) (ch:=[]) un hok bare (fun b z=>absurd z (by simp)),r,q⟩
end
def zS(sp:Sp)(dvs:List V)(E:XK)(t:TA):TE:=fun σ H Q=>t σ H fun vs H1=>sp (vs++dvs) H1 Q E
def Binds(K:Frag)(fd:FuncData)(ps:List Str)(ds:List Value):Prop:=
 ∀(s:Shared) (us:List Value),K.In s.heap→(us++ds).length=ps.length→BindsTo s fd ⟨us,[]⟩ (ps.zip (us++ds))
theorem Binds.all{K:Frag}(h:∀us:List Value,us.length=ps.length→bindArgs fd ⟨us,[]⟩=pure (ps.zip us)):Binds K fd ps []:=fun s us _ hl=>by
 rw[tL]at hl ⊢
 exact .of_eq (h us hl)
def tR(CX:zR)(X:Cx)(E:XK):Prop:=∀(pins:List (Addr×Obj)) (σ:St) (H:Hp) (s:Shared) (e:Value) (s':Shared),Inv X pins σ H s→CX X.stack H s E e s'→X.xe e s'
section
variable {X:Cx} {CX:zR} {k:Nat} {f C:Addr} {fd:FuncData} {ps:List Str} {sp:Sp} {dvs:List V} {ds:List Value} {E:XK} {x m:Str} {p pos apos:Pos} {e o:Expr} {es:List Expr} {ta:TE} {t:TA}
theorem EQ{σ:St}{s:Shared}{Q:VK}(F:FnOk X.prog X.w X.K X.mg X.base CX k f fd ps sp)(hr:Room k X.A)(hb:Binds X.K fd ps ds)(hd:Vals dvs ds)(hx:tR CX X E)
  (I:Inv X pins σ H s) (r:Vals vs us) (h:sp (vs++dvs) H Q E):wpAny (model X.prog X.w) X.A (call (.ref f) us) (EP X pins σ Q) X.xe s:=by
 have r2:Vals (vs++dvs) (us++ds):=r.append hd
 have hl:(us++ds).length=ps.length:=by rw[←r2.length];exact F.len _ _ _ _ h
 refine wpAny_call (codeAny_mono (F.run X.A X.stack s H ⟨us,[]⟩ (us++ds) (vs++dvs) Q E hr I.env0 (hb s us I.kIn hl) r2 h) fun r s' hq=>?_)
 cases r with
 |error e=>exact hx pins σ H s e s' I hq
 |ok fl=>
  cases fl with
  |ret u=>exact I.after hq
  |next=>exact False.elim hq
  |brk=>exact False.elim hq
  |cont=>exact False.elim hq
theorem Ce(F:FnOk X.prog X.w X.K X.mg X.base CX k f fd ps sp)(hr:Room k X.A)(hg:Gl X x)(hm:X.mg x=some (.ref f))(hk:keepIn X.K (.ref f)=true)(hb:Binds X.K fd ps ds)(hd:Vals dvs ds)(hx:tR CX X E)
  (ha:PA X (e::es) t) (hdb:(x == ("__debug__":Str))=false:=by decide) (he:starEach (e::es) X.env=(false,eval e X.env)::starEach es X.env:=by rfl) (hpl:(backTo pos (starEach es X.env)).any (·.1)=false:=by rfl):
  PE X (.Call (.Name x p) (e::es) [] pos) (zS sp dvs E t):=by
 intro pins s σ H Q I h
 refine zz6 (fi I hg hm ?_ hdb)
 refine callWith_K (h₀:=X.base) I.ok.mod.kin hk (ce (ha pos pins s σ H _ I h) fun us s1 ⟨vs,H1,I1,r,q⟩=>⟨I1.kIn,?_⟩) he hpl
 exact EQ F hr hb hd hx I1 r q
end
structure FnScope (N P:List Str) (sc:Scope):Prop where
 kind:sc.kind=.function
 co:sc.isCoroutine=false
 gen:sc.isGenerator=false
 nd:N.Nodup
 pre:N.take P.length=P
 par:∀x∈P,sc.names.lookup x=some .local∨sc.names.lookup x=some .cell
 nofree:∀y∈sc.names,y.2≠ .free
theorem ph{kindOf:Str→Option NameKind}:∀{binds:List (Str×Value)} {m:Str→Option Value},(∀v,(x,v)∉binds)→bindL kindOf binds m x=m x
 |[],_,_=>rfl
 |(n,v)::r,m,h=>by
  unfold bindL
  rw[ph fun w hw=>h w (gW _ hw)]
  split
  ·have:x≠n:=by rintro rfl;exact h v jJ
   simp[this]
  ·rfl
theorem pi{kindOf:Str→Option NameKind}:∀{binds:List (Str×Value)} {m:Str→Option Value},(∀v,(x,v)∉binds)→bindC kindOf binds m x=m x
 |[],_,_=>rfl
 |(n,v)::r,m,h=>by
  unfold bindC
  rw[pi fun w hw=>h w (gW _ hw)]
  split
  ·rfl
  ·have:x≠n:=by rintro rfl;exact h v jJ
   simp[this]
theorem pj{kindOf:Str→Option NameKind}{v:Value}:∀{P:List Str} {vs:List Value} {i:Nat} {m:Str→Option Value},P.Nodup→P[i]? =some x→vs[i]? =some v→kindOf x=some .local→
  bindL kindOf (P.zip vs) m x=some v
 |[],_,_,_,_,h,_,_=>by simp at h
 |_::_,[],_,_,_,_,h,_=>by simp at h
 |p::P,w::vs,0,m,nd,h1,h2,hk=>by
  simp at h1 h2;subst h1;subst h2
  show bindL kindOf ((p,w)::P.zip vs) m p=_
  unfold bindL
  rw[ph fun v hv=>(List.nodup_cons.mp nd).1 (List.of_mem_zip hv).1,if_pos hk]
  simp
 |p::P,w::vs,i+1,m,nd,h1,h2,hk=>by
  show bindL kindOf ((p,w)::P.zip vs) m x=_
  unfold bindL
  exact pj (i:=i) (List.nodup_cons.mp nd).2 (by simpa using h1) (by simpa using h2) hk
theorem pq{kindOf:Str→Option NameKind}{v:Value}:∀{P:List Str} {vs:List Value} {i:Nat} {m:Str→Option Value},P.Nodup→P[i]? =some x→vs[i]? =some v→kindOf x≠some .local→
  bindC kindOf (P.zip vs) m x=some v
 |[],_,_,_,_,h,_,_=>by simp at h
 |_::_,[],_,_,_,_,h,_=>by simp at h
 |p::P,w::vs,0,m,nd,h1,h2,hk=>by
  simp at h1 h2;subst h1;subst h2
  show bindC kindOf ((p,w)::P.zip vs) m p=_
  unfold bindC
  rw[pi fun v hv=>(List.nodup_cons.mp nd).1 (List.of_mem_zip hv).1,if_neg hk]
  simp
 |p::P,w::vs,i+1,m,nd,h1,h2,hk=>by
  show bindC kindOf ((p,w)::P.zip vs) m x=_
  unfold bindC
  exact pq (i:=i) (List.nodup_cons.mp nd).2 (by simpa using h1) (by simpa using h2) hk
def dE(N:List Str)(vs:List V):St:=vs.map some++List.replicate (N.length - vs.length) none
def gf(CX:zR)(P:Program)(w:World)(K:Frag)(mg:Str→Option Value)(base:Heap)(N:List Str)(qual:Str)(scope:Scope)(f:Addr)(cd:Value)(A:Around)(outer:List Env)(s:Shared)(H:Hp)(E:XK):Cx where
 prog:=P
 w:=w
 K:=K
 mg:=mg
 base:=base
 A:=A.deeper (envOfC qual scope s.heap.objs.size f cd)
 N:=N
 s₀:=s
 H₀:=H
 env:=envOfC qual scope s.heap.objs.size f cd
 outer:=outer
 stack:=envOfC qual scope s.heap.objs.size f cd::outer
 ex:=[]
 calm:=true
 fn:=fun _=>true
 pn:=[]
 xe:=fun e s'=>wpAny (model P w) (A.deeper (envOfC qual scope s.heap.objs.size f cd)) (leaving (envOfC qual scope s.heap.objs.size f cd) e) (fun _ s''=>CX outer H s E e s'') (fun e' s''=>CX outer H s E e' s'') s'
theorem rq{sc:Scope}(h:sc.names.lookup x=some .cell):∃c,(cellsFrom n sc.names []).lookup x=some c:=by
 have q:=cellsFrom_some sc.names n [] (.inl h)
 exact Zbf.mp q
theorem lP{CX:zR}{w:World}{K:Frag}{mg:Str→Option Value}{base:Heap}{N:List Str}{f:Addr}{cd:Value}{A:Around}{outer:List Env}{s s1:Shared}{E:XK}
  (S:FnScope N ps scope) (hd:A.handled=none) (e0:Env0 P w K mg base A outer s H) (hl:vs.length=ps.length) (r:Vals vs us)
  (x:InCallC s s.heap.objs.size (bindL (envOfC qual scope s.heap.objs.size f cd).kindOf (ps.zip us) fun _=>none) (cellsFrom (s.heap.objs.size+1) scope.names []) (bindC (envOfC qual scope s.heap.objs.size f cd).kindOf (ps.zip us) fun _=>none) s1):
  Inv (gf CX P w K mg base N qual scope f cd A outer s H E) [] (dE N vs) H s1:=by
 have hpl:ps.length≤N.length:=by have:=congrArg List.length S.pre;rw[oS]at this;omega
 obtain⟨h1,tk,rfl,hk⟩:=x.done
 have noA:∀b:Addr,b∉(gf CX P w K mg base N qual scope f cd A outer s H E).ex:=fun b z=>absurd (show b∈([]:List Addr)from z) (by simp)
 refine⟨⟨e0.mod,S.kind,rfl,rfl,eD _,fun y z c h1 h2=>?_,fun y hy=>?_,fun y c _ h=>?_,fun _=>hd,Around.frames_deeper e0.frames,.inr ⟨rfl,rfl⟩,fun b z=>absurd z (noA b),e0.bs,e0.bsz,fun b _ _=>noA b,fun b z=>absurd z (noA b),e0.funs,e0.frf,e0.tab⟩,
  rfl,e0.bare,Un.kept hk,⟨_,x.toInCall.ns,fun i y v h1 h2 h3=>?_⟩,fun y c h=>⟨_,x.cell y c h⟩,e0.hok.fresh (eD _),fun y c h=>?_,fun p hp=>absurd (show p∈([]:List (Addr×Obj))from hp) (by simp),e0.hok.kept hk,?_⟩
 ·exact name_of_addr x.apart (PySem.mem_of_lookup h1) (PySem.mem_of_lookup h2)
 ·have hy:scope.names.lookup y=some .cell∨scope.names.lookup y=some .free:=hy
  rcases hy with hy |hy
  ·exact rq hy
  ·exact absurd rfl (S.nofree _ (PySem.mem_of_lookup hy))
 ·exact Nat.le_of_lt (x.above y c (PySem.mem_of_lookup h))
 ·have hi:i < vs.length:=by
   unfold dE at h2
   by_cases hi:i < vs.length
   ·exact hi
   ·rw[BT (by simpa using hi)]at h2
    rw[List.getElem?_replicate]at h2
    split at h2 <;> cases h2
  have ha:vs[i]? =some v:=by
   unfold dE at h2
   rw[List.getElem?_append_left (by simpa using hi),wT]at h2
   cases e:vs[i]? with
   |none=>rw[e]at h2;cases h2
   |some a=>rw[e]at h2;cases h2;rfl
  obtain⟨u,hu,rv⟩:=r.get ha
  have hp:ps[i]? =some y:=by
   rw[←S.pre,List.getElem?_take_of_lt (by omega)];exact h1
  have ndP:ps.Nodup:=by rw[←S.pre];exact S.nd.sublist (List.take_sublist _ _)
  refine⟨u,rv,?_⟩
  rcases S.par y (List.mem_of_getElem? hp)with k |k
  ·exact .inl ⟨k,pj ndP hp hu k⟩
  ·obtain⟨c,e⟩:=rq (n:=s.heap.objs.size+1) k
   refine .inr ⟨.inl k,c,e,?_⟩
   have q:=x.cell y c e
   rw[pq ndP hp hu (by show scope.names.lookup y≠_;rw[k];decide)]at q
   exact q
 ·exact e0.hok.fresh (Nat.le_of_lt (x.above y c (PySem.mem_of_lookup h)))
 ·unfold dE
  show _=N.length
  rw[qY,fw,List.length_replicate]
  omega
theorem vR{CX:zR}{w:World}{K:Frag}{mg:Str→Option Value}{base:Heap}{f:Addr}{name:Str}{kV ct:Value}{od:Option Addr}
   {N:List Str} {sp:Sp} (lk:K.lookup f=some ⟨oc,od,.func (fnOf name qual params body scope dV kV doc pm an cdv ct),osl⟩) (hcd:codeIn K cdv qual=true) (S:FnScope N ps scope)
  (len:∀vs H Q E,sp vs H Q E→vs.length=ps.length)
  (hbody:∀(A:Around) (outer:List Env) (s:Shared) (H:Hp) (vs:List V) (Q:VK) (E:XK),Room k (A.deeper (envOfC qual scope s.heap.objs.size f cdv))→sp vs H Q E→
   ∃t,PSs (gf CX P w K mg base N qual scope f cdv A outer s H E) body t∧t {nx:=fun _ H'=>Q .non H',rt:=Q} (dE N vs) H):
  FnOk P w K mg base CX (k+1) f (fnOf name qual params body scope dV kV doc pm an cdv ct) ps sp:=by
 refine⟨len,fun A outer s H args us vs Q E hr e0 hb r hsp=>?_⟩
 have hl:=len _ _ _ _ hsp
 have KX:K.In s.heap:=e0.mod.kin.keeps fun b o e=>(e0.bs b o e).1
 have lim:s.heap.NoLimit:=e0.mod.nolimit.keeps fun b o e=>(e0.bs b o e).1
 have hkind:∀y∈ps.zip us,scope.names.lookup y.1=some .local∨(scope.names.lookup y.1=some .cell∧((cellsFrom (s.heap.objs.size+1) scope.names []).lookup y.1).isSome=true):=fun⟨n,v⟩ hy=>by
  rcases S.par n (List.of_mem_zip hy).1 with q |q
  ·exact .inl q
  ·exact .inr ⟨q,cellsFrom_some _ _ _ (.inl q)⟩
 refine codeAny_call_function hr.depth (KX _ _ lk) rfl S.co S.gen rfl (codeRec_of KX hcd) (hb _ _ _ _ ?_)
 refine wpAny_newFunctionEnv_cells S.kind hkind fun env he s1 x=>?_
 subst he
 refine⟨lim.keeps x.toInCall.keep,codeAny_func ?_⟩
 obtain⟨t,ht,hq⟩:=hbody A outer s H vs Q E (hr.deeper _) hsp
 have I:Inv (gf CX P w K mg base N qual scope f cdv A outer s H E) [] (dE N vs) H s1:=lP S hr.hd e0 hl r x
 refine zz2 (ht [] s1 (dE N vs) H _ I hq) (fun fl s' hs=>?_) fun e s' hs=>hs
 have fin:∀{σ':St} {H':Hp} {v:V} {u:Value},Inv (gf CX P w K mg base N qual scope f cdv A outer s H E) [] σ' H' s'→RelV v u→Q v H'→CE outer P w H s Q u s':=
  fun {σ' H' v u} J rv q=>⟨v,H',J.os,J.bare,J.base,J.hok,rv,q⟩
 cases fl with
 |ret u=>
  obtain⟨v,σ',H',J,rv,q⟩:=hs
  exact fin J rv q
 |next=>
  obtain⟨σ',H',J,q⟩:=hs
  exact fin (v:=V.non) (u:=Value.none) J rfl q
 |brk=>
  obtain⟨_,_,_,q⟩:=hs
  exact False.elim q
 |cont=>
  obtain⟨_,_,_,q⟩:=hs
  exact False.elim q
end L2
variable {sp:L2.Sp}
namespace L2
open PySem PySem.Spec PyProof.Rows
section
variable {X:Cx} {x:Str} {p pos:Pos} {e:Expr} {es:List Expr} {t:TA} {id T:String} {r:List V→Hp→VK→Prop}
def IC(r:List V→Hp→VK→Prop)(t:TA):TE:=fun σ H Q=>t σ H fun vs H1=>r vs H1 Q
theorem gX(hc:CallR X (.builtin id) r) (hg:Gl X x) (hm:X.mg x=none) (hv:bootBuiltins x=some (.builtin id)) (ha:PA X (e::es) t) (hn:x≠"__name__":=by decide) (hdb:(x == ("__debug__":Str))=false:=by decide)
  (he:starEach (e::es) X.env=(false,eval e X.env)::starEach es X.env:=by rfl) (hpl:(backTo pos (starEach es X.env)).any (·.1)=false:=by rfl):PE X (.Call (.Name x p) (e::es) [] pos) (IC r t):=by
 intro pins s σ H Q I h
 refine zz6 (lN I hg hm hv ?_ hn hdb)
 exact PyProof.Rows.callWith_builtin1 (ce (ha pos pins s σ H _ I h) fun us s1 ⟨vs,H1,I1,r1,q1⟩=>hc pins s1 σ H1 vs us Q I1 r1 q1) he hpl
theorem xB(hc:CallR X (.type T) r) (hg:Gl X x) (hm:X.mg x=none) (hv:bootBuiltins x=some (.type T)) (ha:PA X (e::es) t) (hn:x≠"__name__":=by decide) (hdb:(x == ("__debug__":Str))=false:=by decide)
  (he:starEach (e::es) X.env=(false,eval e X.env)::starEach es X.env:=by rfl) (hpl:(backTo pos (starEach es X.env)).any (·.1)=false:=by rfl):PE X (.Call (.Name x p) (e::es) [] pos) (IC r t):=by
 intro pins s σ H Q I h
 refine zz6 (lN I hg hm hv ?_ hn hdb)
 exact PyProof.Rows.callWith_type1 (ce (ha pos pins s σ H _ I h) fun us s1 ⟨vs,H1,I1,r1,q1⟩=>hc pins s1 σ H1 vs us Q I1 r1 q1) he hpl
end
end L2
namespace HT
open PySem PyProof.Rows
section
open PySem.SeqAt
open PySem.AutoSeq1 (wpAny_loadPart')
open PySem.MeetsSeq PySem.MeetsSeq2 PySem.MeetsSeq3
end
section
variable {prog:Program} {w:World} {A:Around} {E:Value→Shared→Prop} {s:Shared}
def m4(n d:Nat):Option Int→Nat
 |none=>d
 |some v=>if v < 0 then (v+(n:Int)).toNat else min v.toNat n
theorem zT(n d:Nat):m4 n d none=d:=rfl
theorem qd(n d k:Nat):m4 n d (some (k:Int))=min k n:=by
 show(if (k:Int) < 0 then ((k:Int)+(n:Int)).toNat else min (k:Int).toNat n)=min k n
 rw[if_neg (by omega),Int.toNat_natCast]
end
end HT
namespace L2
open PySem PySem.Spec PyProof.Rows
abbrev TO:=St→Hp→(Option Int→Hp→Prop)→Prop
def PO(X:Cx)(e:Option Expr)(t:TO):Prop:=
 ∀(pins:List (Addr×Obj)) (s:Shared) (σ:St) (H:Hp) (Q:Option Int→Hp→Prop),Inv X pins σ H s→t σ H Q→
  wpAny (model X.prog X.w) X.A (evalPart e X.env) (fun u s'=>∃o H',Inv X pins σ H' s'∧IsPart u o∧Q o H') X.xe s
def Cf:TO:=fun _ H Q=>Q none H
def GO(t:TE):TO:=fun σ H Q=>t σ H fun x H1=>∃i,x=.int i∧Q (some i) H1
section
variable {X:Cx} {e:Expr} {te:TE} {lo hi:Option Expr} {tl th:TO} {pos p2:Pos}
theorem Cg:PO X none Cf:=by
 intro pins s σ H Q I h
 rw[evalPart_none]
 exact zz1 ⟨none,H,I,.none,h⟩
theorem Ch(h:PE X e te):PO X (some e) (GO te):=by
 intro pins s σ H Q I hw
 rw[evalPart_some]
 refine ce (h pins s σ H _ I hw) fun u s1 ⟨x,H1,I1,r1,q1⟩=>?_
 obtain⟨i,rfl,q⟩:=q1
 obtain⟨t,rfl⟩:=r1
 exact⟨some i,H1,I1,.int i t,q⟩
def SlR(X:Cx)(r:V→Option Int→Option Int→Hp→VK→Prop):Prop:=
 ∀(pins:List (Addr×Obj)) (s:Shared) (σ:St) (H:Hp) (x:V) (v vl vu:Value) (lo hi:Option Int) (sl:Addr) (Q:VK),Inv X pins σ H s→RelV x v→s.heap.IsSliceOf sl vl vu .none→IsPart vl lo→IsPart vu hi→r x lo hi H Q→
  ∃T id,typeLookup (.type T) "__getitem__"=pure (some (.builtin id))∧s.TypeIs v T∧wpAny (model X.prog X.w) X.A (getItem v (.ref sl)) (EP X pins σ Q) X.xe s
theorem SlR.or{r r':V→Option Int→Option Int→Hp→VK→Prop}(h:SlR X r)(h':SlR X r'):SlR X (fun x lo hi H Q=>r x lo hi H Q∨r' x lo hi H Q):=by
 intro pins s σ H x v vl vu lo hi sl Q I rx hs pl pu q
 rcases q with q |q
 ·exact h pins s σ H x v vl vu lo hi sl Q I rx hs pl pu q
 ·exact h' pins s σ H x v vl vu lo hi sl Q I rx hs pl pu q
def JC(r:V→Option Int→Option Int→Hp→VK→Prop)(te:TE)(tl th:TO):TE:=fun σ H Q=>te σ H fun x H1=>tl σ H1 fun l H2=>th σ H2 fun u H3=>r x l u H3 Q
theorem zU{r:V→Option Int→Option Int→Hp→VK→Prop}(hr:SlR X r)(he:PE X e te)(hl:PO X lo tl)(hu:PO X hi th):PE X (.Subscript e (.Slice lo hi none p2) pos) (JC r te tl th):=by
 intro pins s σ H Q I h
 refine Subscript_ (ce (he pins s σ H _ I h) fun v s1 ⟨x,H1,I1,r1,q1⟩=>?_)
 refine wpAny_Slice (ce (hl pins s1 σ H1 _ I1 q1) fun vl s2 ⟨l,H2,I2,pl,q2⟩=>ce (hu pins s2 σ H2 _ I2 q2) fun vu s3 ⟨u,H3,I3,pu,q3⟩=>?_)
 rw[evalPart_none]
 refine zz1 ?_
 have I4:Inv X pins σ H3 {s3 with heap:=s3.heap.push {cls:=.type "slice",data:=.fields #[vl,vu,.none]}}:=I3.kept (t':=s3.toks) fun b ob q=>eT _ q
 obtain⟨T,id,hT,ht,hg⟩:=hr pins {s3 with heap:=s3.heap.push {cls:=.type "slice",data:=.fields #[vl,vu,.none]}} σ H3 x v vl vu l u s3.heap.objs.size Q I4 r1 (Heap.IsSliceOf.new ..) pl pu q3
 show wpAny (model X.prog X.w) X.A (subscriptTail e (.Slice lo hi none p2) v (.ref s3.heap.objs.size)) (EP X pins σ Q) X.xe {s3 with heap:=s3.heap.push {cls:=.type "slice",data:=.fields #[vl,vu,.none]}}
 exact tail_any (ops:=[.ref s3.heap.objs.size,v]) ht hT hg (by with_unfolding_all rfl)
def xC(xs:List V)(lo hi:Option Int):List V:=(xs.drop (HT.m4 xs.length 0 lo)).take (HT.m4 xs.length xs.length hi - HT.m4 xs.length 0 lo)
theorem rz(xs:List V)(lo hi:Option Int):(xC xs lo hi).length≤xs.length:=by
 unfold xC
 rw[oS,List.length_drop]
 omega
end
end L2
namespace L2
open PySem PySem.Spec PyProof.Rows
def GP(n:Nat)(i:Int):Option Nat:=if 0≤i then (if i < n then some i.toNat else none)else if -(n:Int)≤i then some (i+n).toNat else none
def atI{α:Type}(xs:List α)(i:Int):Option α:=(GP xs.length i).bind fun j=>xs[j]?
theorem Ci{i:Int}(h:GP n i=some j):seqIndex? i n=some j∧j < n∧ -(n:Int)≤i∧i < n:=by
 unfold GP at h
 by_cases h0:0≤i
 ·rw[if_pos h0]at h
  by_cases h1:i < n
  ·rw[if_pos h1]at h
   have e:i.toNat=j:=Option.some.inj h
   exact⟨by rw[seqIndex_of h0 h1,e],by omega,by omega,h1⟩
  ·rw[if_neg h1]at h;cases h
 ·rw[if_neg h0]at h
  by_cases h1: -(n:Int)≤i
  ·rw[if_pos h1]at h
   have e:(i+n).toNat=j:=Option.some.inj h
   exact⟨by rw[seqIndex_neg (by omega) h1,e],by omega,h1,by omega⟩
  ·rw[if_neg h1]at h;cases h
theorem qe{xs:List α}{i:Int}{v:α}(h:atI xs i=some v):∃j,seqIndex? i xs.length=some j∧xs[j]? =some v∧j < xs.length∧ -(xs.length:Int)≤i∧i < xs.length:=by
 unfold atI at h
 cases e:GP xs.length i with
 |none=>rw[e]at h;cases h
 |some j=>
  rw[e]at h
  obtain⟨h1,h2,h3,h4⟩:=Ci e
  exact⟨j,h1,h,h2,h3,h4⟩
def vS(b:Expr):Prop:=∀o i,subscripted b false o i=operate [o,i] (getItem o i)
def IxR(X:Cx)(r:R2):Prop:=
 ∀(value slice:Expr) (pins:List (Addr×Obj)) (s:Shared) (σ:St) (H:Hp) (x y:V) (v u:Value) (Q:VK),Inv X pins σ H s→RelV x v→RelV y u→r x y H Q→
  subscripted slice false v u=operate [v,u] (getItem v u)→wpAny (model X.prog X.w) X.A (subscriptTail value slice v u) (EP X pins σ Q) X.xe s
def ID(X:Cx)(id:String)(r:V→List V→Hp→VK→Prop):Prop:=
 ∀(pins:List (Addr×Obj)) (s:Shared) (σ:St) (H:Hp) (x:V) (xs:List V) (v:Value) (us:List Value) (Q:VK),Inv X pins σ H s→RelV x v→Vals xs us→r x xs H Q→
  wpAny (model X.prog X.w) X.A (call (.builtin id) (v::us)) (EP X pins σ Q) X.xe s
section
variable {X:Cx} {a b:Expr} {ta tb:TE} {pos:Pos}
theorem IxR.or(h:IxR X r)(h':IxR X r'):IxR X (fun x y H Q=>r x y H Q∨r' x y H Q):=by
 intro value slice pins s σ H x y v u Q I rx ry q hs
 rcases q with q |q
 ·exact h value slice pins s σ H x y v u Q I rx ry q hs
 ·exact h' value slice pins s σ H x y v u Q I rx ry q hs
theorem GQ(hr:IxR X r)(ha:PE X a ta)(hb:PE X b tb)(hs:vS b):PE X (.Subscript a b pos) (EC r ta tb):=by
 intro pins s σ H Q I h
 exact Subscript_ (ED ha hb I h fun v u s2 x y H2 I2 rx ry q=>hr a b pins s2 σ H2 x y v u Q I2 rx ry q (hs _ _))
def GR(K:Frag):R2:=fun x y H Q=>∃p xs i v,x=.ref p∧y=.int i∧SqL K H p xs∧atI xs i=some v∧Q v H
def GS(K:Frag):R2:=fun x y H Q=>∃p xs i v,x=.ref p∧y=.int i∧SqT K H p xs∧atI xs i=some v∧Q v H
def GT:R2:=fun x y H Q=>∃z i c,x=.str z∧y=.int i∧z.length≤sizeLine∧atI z.cps.toList i=some c∧Q (.str ⟨#[c]⟩) H
theorem ix_list:IxR X (GR X.K):=by
 intro value slice pins s σ H x y v u Q I rx ry h hs
 obtain⟨p,xs,i,z,rfl,rfl,hq,he,q⟩:=h
 cases rx
 obtain⟨t,rfl⟩:=ry
 obtain⟨its,r,pl,hz⟩:=I.list hq
 obtain⟨j,h1,h2,h3,h4,h5⟩:=qe he
 obtain⟨w,ew,rw'⟩:=r.get h2
 have hl:=r.length
 have hn:=lO
 have fin:EP X pins σ Q w s:=⟨z,H,I,rw',q⟩
 by_cases h0:0≤i
 ·have hj:i.toNat=j:=by
   rw[seqIndex_of h0 h5]at h1
   exact Option.some.inj h1
  exact item_listR pl.isList h0 (by omega) (by rw[hj];simpa using ew) fin hs
 ·have hj:(i+(its.toArray.size:Int)).toNat=j:=by
   rw[seqIndex_neg (by omega) h4]at h1
   rw[mz,←hl]
   exact Option.some.inj h1
  exact subscriptTail_builtinR (x:=w) pl.isList.typeIs slot_list_getitem.lookup
   (wpAny_getItem_list_neg (Q:=fun r s'=>r=w∧EP X pins σ Q r s') pl.isList (by omega) (by rw[mz] <;> omega) (by omega) (by rw[hj];simpa using ew) ⟨rfl,fin⟩) hs
theorem ix_tup:IxR X (GS X.K):=by
 intro value slice pins s σ H x y v u Q I rx ry h hs
 obtain⟨p,xs,i,z,rfl,rfl,hq,he,q⟩:=h
 cases rx
 obtain⟨t,rfl⟩:=ry
 obtain⟨its,r,pl,hz⟩:=I.tuple hq
 obtain⟨j,h1,h2,h3,h4,h5⟩:=qe he
 obtain⟨w,ew,rw'⟩:=r.get h2
 have hl:=r.length
 have hn:=lO
 have fin:EP X pins σ Q w s:=⟨z,H,I,rw',q⟩
 exact subscriptTail_builtinR (x:=w) pl.typeIs slot_tuple_getitem.lookup
  (getItem_tuple (j:=j) (Q:=fun r s'=>r=w∧EP X pins σ Q r s') pl (by omega) (by omega) (by rw[mz,←hl];exact h1) (by simpa using ew) ⟨rfl,fin⟩) hs
theorem ER:IxR X GT:=by
 intro value slice pins s σ H x y v u Q I rx ry h hs
 obtain⟨z,i,c,rfl,rfl,hz,he,q⟩:=h
 obtain⟨t,rfl⟩:=rx
 obtain⟨t',rfl⟩:=ry
 obtain⟨j,h1,h2,h3,h4,h5⟩:=qe he
 have hl:z.cps.toList.length=z.length:=by simp[Str.length]
 rw[hl]at h1 h4 h5
 have hn:=lO
 exact tail_any (typeIs_str s z t) slot_str_getitem.lookup (getItem_str (c:=c) (by
  have e1:decide (i < -(2 ^ 63:Int))=false:=zz3 (by omega)
  have e2:decide (i≥2 ^ 63)=false:=zz3 (by omega)
  rw[e1,e2,Bool.or_false]) (by rw[h1];simpa using h2) ⟨.str ⟨#[c]⟩,H,I.tok _,⟨_,rfl⟩,q⟩) hs
def Js(K:Frag):R2:=fun x y H Q=>GR K x y H Q∨GS K x y H Q∨GT x y H Q
theorem ES:IxR X (Js X.K):=ix_list.or (ix_tup.or ER)
theorem qf(lo hi:Option Int)(n:Nat):(sliceBounds lo hi none n).1=((HT.m4 n 0 lo:Nat):Int)∧(sliceBounds lo hi none n).2.1=((HT.m4 n n hi:Nat):Int)∧(sliceBounds lo hi none n).2.2=1:=by
 refine⟨?_,?_,rfl⟩
 ·cases lo with
  |none=>simp[sliceBounds,HT.m4]
  |some i=>
   simp only[sliceBounds,HT.m4,Option.getD_none,show(1:Int) > 0 by decide,if_true]
   by_cases h:i < 0
   ·simp only[h,if_true] <;> omega
   ·simp only[h,if_false] <;> omega
 ·cases hi with
  |none=>simp[sliceBounds,HT.m4]
  |some i=>
   simp only[sliceBounds,HT.m4,Option.getD_none,show(1:Int) > 0 by decide,if_true]
   by_cases h:i < 0
   ·simp only[h,if_true] <;> omega
   ·simp only[h,if_false] <;> omega
theorem oV(its:List Value)(lo hi:Option Int):slicePick its.toArray lo hi none=((its.drop (HT.m4 its.length 0 lo)).take (HT.m4 its.length its.length hi - HT.m4 its.length 0 lo)).toArray:=by
 obtain⟨h1,h2,h3⟩:=qf lo hi its.toArray.size
 unfold slicePick
 rw[h1,h2,h3]
 simp only[sliceRange_one,pick_run,mz] <;> rfl
def IE(K:Frag):V→Option Int→Option Int→Hp→VK→Prop:=fun x lo hi H Q=>∃a xs,x=.ref a∧SqL K H a xs∧∀p,H p=none→Q (.ref p) (upd H p (.lst (xC xs lo hi)))
theorem Cj:SlR X (IE X.K):=by
 intro pins s σ H x v vl vu lo hi sl Q I rx hs pl pu h
 obtain⟨a,xs,rfl,hx,q⟩:=h
 cases rx
 obtain⟨its,r,ht,hz⟩:=I.list hx
 have hlen:=r.length
 refine⟨"list",_,slot_list_getitem.lookup,ht.isList.typeIs,?_⟩
 refine wpAny_getItem_list_slice ht.isList hs pl pu .none (by simp) ?_ (by rw[mz] <;> omega)
 rw[oV,←hlen]
 refine⟨.ref s.heap.objs.size,_,I.laid (t':=s.toks) (o:=.lst (xC xs lo hi)) (fun b ob q=>eT _ q) (eD _) ?_,rfl,q _ (I.hok.fresh (eD _))⟩
 exact⟨lL (rz xs lo hi) hz,_,0,(r.drop (HT.m4 xs.length 0 lo)).take (HT.m4 xs.length xs.length hi - HT.m4 xs.length 0 lo),kh _ rfl⟩
def iM:V→Bool
 |.non=>true
 |.bl _=>true
 |.int _=>true
 |.str _=>true
 |_=>false
def BV:V→V→Bool
 |.non,.non=>true
 |.bl a,.bl b=>a == b
 |.bl a,.int b=>(if a then 1 else 0) == b
 |.int a,.bl b=>a == (if b then 1 else 0)
 |.int a,.int b=>a == b
 |.str a,.str b=>a == b
 |_,_=>false
theorem ET{A:Around}{s:Shared}{y x:V}{u v:Value}(ry:RelV y u)(rx:RelV x v)(fy:iM y=true)(fx:iM x=true):SeqAt.EqAt A s u v (BV y x):=by
 cases y with
 |non=>
  cases ry
  cases x with
  |non=>cases rx;exact SeqAt.EqAt.same _
  |bl b=>cases rx;exact SeqAt.EqAt.none_bool b
  |int b=>obtain⟨t,rfl⟩:=rx;exact SeqAt.EqAt.none_int b t
  |str b=>obtain⟨t,rfl⟩:=rx;exact SeqAt.EqAt.none_str b t
  |_=>exact absurd (show false=true from fx) p8
 |bl a=>
  cases ry
  cases x with
  |non=>cases rx;exact SeqAt.EqAt.bool_none a
  |bl b=>cases rx;exact SeqAt.EqAt.bool_bool a b
  |int b=>obtain⟨t,rfl⟩:=rx;exact SeqAt.EqAt.bool_int a b t
  |str b=>obtain⟨t,rfl⟩:=rx;exact SeqAt.EqAt.bool_str a b t
  |_=>exact absurd (show false=true from fx) p8
 |int a=>
  obtain⟨t',rfl⟩:=ry
  cases x with
  |non=>cases rx;exact SeqAt.EqAt.int_none a t'
  |bl b=>cases rx;exact SeqAt.EqAt.int_bool a t' b
  |int b=>obtain⟨t,rfl⟩:=rx;exact SeqAt.EqAt.int_int a t' b t
  |str b=>obtain⟨t,rfl⟩:=rx;exact SeqAt.EqAt.int_str a t' b t
  |_=>exact absurd (show false=true from fx) p8
 |str a=>
  obtain⟨t',rfl⟩:=ry
  cases x with
  |non=>cases rx;exact SeqAt.EqAt.str_none a t'
  |bl b=>cases rx;exact SeqAt.EqAt.str_bool a t' b
  |int b=>obtain⟨t,rfl⟩:=rx;exact SeqAt.EqAt.str_int a t' b t
  |str b=>obtain⟨t,rfl⟩:=rx;exact SeqAt.EqAt.str_str a t' b t
  |_=>exact absurd (show false=true from fx) p8
 |_=>exact absurd (show false=true from fy) p8
def Ck(x:V)(u:Value):Bool:=match u with
 |.none=>BV .non x
 |.bool b=>BV (.bl b) x
 |.int i _=>BV (.int i) x
 |.str z _=>BV (.str z) x
 |_=>false
theorem zV{x y:V}{u:Value}(r:RelV y u)(f:iM y=true):Ck x u=BV y x:=by
 cases y with
 |non=>cases r;rfl
 |bl b=>cases r;rfl
 |int i=>obtain⟨t,rfl⟩:=r;rfl
 |str z=>obtain⟨t,rfl⟩:=r;rfl
 |_=>exact absurd (show false=true from f) p8
theorem qg{x:V}:∀{xs:List V} {us:List Value},Vals xs us→xs.all iM=true→us.any (Ck x)=xs.any fun y=>BV y x
 |_,_,.nil,_=>rfl
 |y::xs,u::us,.cons r t,f=>by
  rw[List.all_cons,qZ]at f
  rw[List.any_cons,List.any_cons,zV r f.1,qg t f.2]
theorem ny{A:Around}{s:Shared}{x:V}{v:Value}(rx:RelV x v)(fx:iM x=true):∀{xs:List V} {us:List Value},Vals xs us→xs.all iM=true→∀u∈us,SeqAt.EqAt A s u v (Ck x u)
 |_,_,.nil,_=>fun u hu=>by cases hu
 |y::xs,u::us,.cons r t,f=>fun u' hu=>by
  rw[List.all_cons,qZ]at f
  rcases Zai.mp hu with rfl |hu
  ·rw[zV r f.1];exact ET r rx f.1 fx
  ·exact ny rx fx t f.2 u' hu
def Gq(x:V)(xs:List V):Bool:=xs.any fun y=>BV y x
def Jt(K:Frag)(neg:Bool):R2:=fun x y H Q=>∃p xs,y=.ref p∧(SqL K H p xs∨SqT K H p xs)∧iM x=true∧xs.all iM=true∧Q (.bl (if neg then !Gq x xs else Gq x xs)) H
theorem xD:OpR X (compareOp .In) (Jt X.K false):=by
 intro pins s σ H x y v u Q I rx ry h
 obtain⟨p,xs,rfl,hq,fx,fs,q⟩:=h
 cases ry
 rcases hq with hq |hq
 ·obtain⟨its,r,pl,hz⟩:=I.list hq
  refine SeqAt.in_listAt (Ck x) pl.isList (fun w hw=>ny rx fx r fs w (by simpa using hw)) ⟨.bl _,H,I,rfl,?_⟩
  rw[show its.toArray.any (Ck x)=its.any (Ck x) by simp,qg r fs]
  exact q
 ·obtain⟨its,r,pl,hz⟩:=I.tuple hq
  refine SeqAt.in_tupleAt (Ck x) pl (fun w hw=>ny rx fx r fs w (by simpa using hw)) ⟨.bl _,H,I,rfl,?_⟩
  rw[show its.toArray.any (Ck x)=its.any (Ck x) by simp,qg r fs]
  exact q
theorem qh:CallR X (.builtin "len") (fun xs H Q=>∃p ys,xs=[.ref p]∧(SqL X.K H p ys∨SqT X.K H p ys)∧Q (.int ys.length) H):=by
 intro pins s σ H xs us Q I r h
 obtain⟨p,ys,rfl,hq,q⟩:=h
 obtain⟨u,rfl,rx⟩:=zQ r
 cases rx
 have hn:=lO
 rcases hq with hq |hq
 ·obtain⟨its,r',pl,hz⟩:=I.list hq
  have hlen:=r'.length
  exact Calls.call_len_list pl.isList (by simp only[mz] <;> omega) ⟨.int ys.length,H,I.tok _,⟨s.toks+1,by rw[mz,hlen]⟩,q⟩
 ·obtain⟨its,r',pl,hz⟩:=I.tuple hq
  have hlen:=r'.length
  exact len_tuple pl (by simp only[mz] <;> omega) ⟨.int ys.length,H,I.tok _,⟨s.toks+1,by rw[mz,hlen]⟩,q⟩
theorem qi:CallR X (.builtin "len") (fun xs H Q=>∃z,xs=[.str z]∧z.length≤sizeLine∧Q (.int z.length) H):=by
 intro pins s σ H xs us Q I r h
 obtain⟨z,rfl,hz,q⟩:=h
 obtain⟨u,rfl,t,rfl⟩:=zQ r
 have hn:=lO
 exact len_str (by omega) ⟨.int z.length,H,I.tok _,⟨_,rfl⟩,q⟩
theorem CallR.or{f:Value}{r r':List V→Hp→VK→Prop}(h:CallR X f r)(h':CallR X f r'):CallR X f (fun xs H Q=>r xs H Q∨r' xs H Q):=by
 intro pins s σ H xs us Q I rs q
 rcases q with q |q
 ·exact h pins s σ H xs us Q I rs q
 ·exact h' pins s σ H xs us Q I rs q
def Ju(K:Frag)(T:String)(x:V)(H:Hp):Prop:=match x with
 |.str _=>T="str"
 |.int _=>T="int"
 |.ref p=>(T="list"∧∃xs,SqL K H p xs)∨(T="tuple"∧∃o,K.lookup p=some o∧o.cls=.type "tuple"∧o.dict=none)∨
   (T="dict"∧((∃kvs,H p=some (.dK kvs))∨∃kvs,H p=some (.dT kvs)))∨(T="set"∧∃S n,H p=some (.set S n))
 |_=>False
theorem EU{σ:St}{s:Shared}{T:String}{x:V}{v:Value}(I:Inv X pins σ H s)(r:RelV x v)(ty:Ju X.K T x H):
  s.TypeIs v T∧∀a,v=.ref a→∃ob,s.heap.get? a=some ob∧ob.dict=none:=by
 cases x with
 |str z=>
  obtain⟨t,rfl⟩:=r
  cases(show T="str" from ty)
  exact⟨typeIs_str s z t,fun _ e=>nomatch e⟩
 |int i=>
  obtain⟨t,rfl⟩:=r
  cases(show T="int" from ty)
  exact⟨typeIs_int s i t,fun _ e=>nomatch e⟩
 |ref p=>
  cases r
  rcases ty with⟨rfl,xs,hq⟩ |⟨rfl,o,hk,hc,hd⟩ |⟨rfl,hk⟩ |⟨rfl,S,n,hk⟩
  ·obtain⟨its,_,pl,_⟩:=I.list hq
   refine⟨pl.isList.typeIs,fun a e=>?_⟩
   cases e
   obtain⟨o,n,e,c,hd,_⟩:=pl
   exact⟨o,e,hd⟩
  ·refine⟨⟨o,I.kIn p o hk,hc⟩,fun a e=>?_⟩
   cases e
   exact⟨o,I.kIn _ o hk,hd⟩
  ·have z:∃o,s.heap.get? p=some o∧o.ExactDict:=by
    rcases hk with⟨kvs,hk⟩ |⟨kvs,hk⟩
    ·obtain⟨_,_,_,_,o,_,_,e,ex,_⟩:=I.hok p _ hk
     exact⟨o,e,ex⟩
    ·obtain⟨_,_,_,_,o,_,_,e,ex,_⟩:=I.hok p _ hk
     exact⟨o,e,ex⟩
   obtain⟨o,e,ex⟩:=z
   refine⟨⟨o,e,ex.1⟩,fun a e2=>?_⟩
   cases e2
   exact⟨o,e,ex.2.1⟩
  ·obtain⟨o,_,_,_,e,ex,_⟩:=I.hok p _ hk
   refine⟨⟨o,e,ex.1⟩,fun a e2=>?_⟩
   cases e2
   exact⟨o,e,ex.2.1⟩
 |_=>exact False.elim ty
def JD(K:Frag)(T:String)(r:V→List V→Hp→VK→Prop)(to:TE)(t:TA):TE:=fun σ H Q=>to σ H fun x H1=>Ju K T x H1∧t σ H1 fun xs H2=>r x xs H2 Q
variable {o e:Expr} {es:List Expr} {to:TE} {t:TA} {name:Str} {apos cpos:Pos} {T id:String} {r:V→List V→Hp→VK→Prop}
theorem zW(pa:PlainAttrs T) (slot:Slot T name id) (hty:typeOf (.builtin id)=pure (.type "method_descriptor")) (hm:ID X id r) (ho:PE X o to) (ha:PA X (e::es) t)
  (hbase:attributeBase o name X.env (eval o X.env)=eval o X.env:=by rfl)
  (hfew:((backTo cpos (starEach (e::es) X.env)).all (fun x=> !x.1)&&(backToKw cpos (keywordEach [] X.env)).all (fun x=>x.1.isSome)
   &&decide ((e::es).length+([]:List Keyword).length+(if ([]:List Keyword).isEmpty then 0 else 1) < 30))=true:=by rfl)
  (hline:(apos.endLine == cpos.line)=true:=by rfl) (hs:starEach (e::es) X.env=(false,eval e X.env)::starEach es X.env:=by rfl) (hplain:(backTo cpos (starEach es X.env)).any (·.1)=false:=by rfl):
  PE X (.Call (.Attribute o name apos) (e::es) [] cpos) (JD X.K T r to t):=by
 intro pins s σ H Q I h
 refine wpAny_Call_method_late hbase hfew hline rfl (ce (ho pins s σ H _ I h) fun v s1 ⟨x,H1,I1,r1,ty,q1⟩=>?_)
 obtain⟨h1,h2⟩:=EU I1 r1 ty
 refine⟨T,id,pa,slot,hty,h1,h2,?_⟩
 have hA:=ha cpos pins s1 σ H1 _ I1 q1
 rw[hs]at hA ⊢
 refine Calls.callWith_builtin (by show(false||(backTo cpos (starEach es X.env)).any (·.1))=false;rw[hplain] <;> rfl) (Calls.evalArgs_plain ?_)
 exact ce hA fun us s2 ⟨vs,H2,I2,r2,q2⟩=>hm pins s2 σ H2 x vs v us Q I2 r1 r2 q2
end
end L2
namespace L2
open PySem PySem.Spec PyProof.Rows
def JE(X:Cx)(id:String)(r:V→List V→Hp→VK→Prop):Prop:=
 ∀(pins:List (Addr×Obj)) (s:Shared) (σ:St) (H:Hp) (x:V) (xs:List V) (v:Value) (us:List Value) (Q:VK),Inv X pins σ H s→RelV x v→Vals xs us→r x xs H Q→
  wpAny (model X.prog X.w) X.A (call (.builtin id) (v::us)) (EP X pins σ Q) X.xe s
theorem Vals.one{x:V}(h:Vals [x] us):∃u,us=[u]∧RelV x u:=by
 cases h with
 |cons r t=>cases t;exact⟨_,rfl,r⟩
theorem Vals.two{x y:V}(h:Vals [x,y] us):∃u v,us=[u,v]∧RelV x u∧RelV y v:=by
 cases h with
 |cons r t=>
  obtain⟨v,rfl,q⟩:=Vals.one t
  exact⟨_,_,rfl,r,q⟩
theorem Vals.rep(h:Vals xs us):∀k:Nat,Vals (List.replicate k xs).flatten (List.replicate k us).flatten
 | 0=>.nil
 |k+1=>by
  rw[List.replicate_succ,List.replicate_succ,List.flatten_cons,List.flatten_cons]
  exact Vals.append h (Vals.rep h k)
section
variable {X:Cx} {pins:List (Addr×Obj)} {σ:St} {H:Hp} {s:Shared} {l b:Addr} {xs ys zs:List V}
theorem Inv.lset{its':List Value}{f:Array Value→Array Value}(I:Inv X pins σ H s)(hH:H l=some (.lst xs))
  (e:s.heap.get? l=some {cls:=.type "list",data:=.seq its.toArray n}) (hf:f its.toArray=its'.toArray) (hv:Vals ys its') (hz:ys.length≤sizeLine):
  Inv X pins σ (upd H l (.lst ys)) {s with heap:=s.heap.update l (Obj.mapSeq f),toks:=t'}:=by
 have q:=PySem.IsL.update e f
 rw[hf]at q
 refine I.write (x:=l) (e:=l) (by rw[hH];exact trivial) (.inl rfl) (fun b' u hb hu=>(zF s.heap (Obj.mapSeq f) (Ne.symm hb)).trans hu) ⟨_,q⟩ ?_
 exact⟨hz,its',_,hv,q⟩
theorem Inv.lnew(I:Inv X pins σ H s)(hv:Vals ys its)(hz:ys.length≤sizeLine):
  Inv X pins σ (upd H s.heap.objs.size (.lst ys)) {s with heap:=s.heap.push {cls:=.type "list",data:=.seq its.toArray},toks:=t'}:=
 I.laid (fun _ _ q=>eT _ q) (eD _) ⟨hz,its,0,hv,kh _ rfl⟩
theorem Inv.fresh(I:Inv X pins σ H s):H s.heap.objs.size=none:=I.hok.fresh (eD _)
theorem Inv.lstM(I:Inv X pins σ H s)(hH:H l=some (.lst xs)):xs.length≤sizeLine∧∃(its:List Value) (n:Nat),Vals xs its∧xs.length=its.length∧s.heap.get? l=some {cls:=.type "list",data:=.seq its.toArray n}:=by
 obtain⟨z,its,n,r,e⟩:=I.hok l _ hH
 exact⟨z,its,n,r,r.length,e⟩
end
section
variable {X:Cx}
def Cl:V→List V→Hp→VK→Prop:=fun x vs H Q=>∃l xs y,x=.ref l∧vs=[y]∧H l=some (.lst xs)∧xs.length < sizeLine∧Q .non (upd H l (.lst (xs++[y])))
theorem jL:JE X "list.append" Cl:=by
 intro pins s σ H x vs v us Q I rx rv h
 obtain⟨l,xs,y,rfl,rfl,hH,hz,q⟩:=h
 cases rx
 obtain⟨u,rfl,ru⟩:=rv.one
 obtain⟨z,its,n,r,hl,e⟩:=I.lstM hH
 refine call_meets F.slot_list_append ⟨_,e,rfl⟩ F.entry_list_append (F.args_list_append_2 _ _) (PySem.list_append l its.toArray n u (by rw[mz];omega)) ⟨e,?_⟩
 refine⟨.non,_,I.lset (its':=its++[u]) hH e (by simp) (r.append (.cons ru .nil)) ?_,rfl,q⟩
 rw[qY,List.length_singleton]
 omega
theorem Cn(xs:List α)(k:Nat):(List.replicate k xs).flatten.length=k*xs.length:=by
 induction k with
 |zero=>simp
 |succ k ih=>rw[List.replicate_succ,List.flatten_cons,qY,ih,Nat.succ_mul,Nat.add_comm]
end
end L2
namespace Att
open PySem PySem.W PySem.Calls PyProof.Rows
theorem mR{P:Params}:∀(ns:List Int) (vs:List Value),WellAll P h vs (ns.map WData.int)→IntsAre vs ns:=by
 intro ns
 induction ns with
 |nil=>
  intro vs w
  rw[List.map_nil]at w
  cases w
  exact .nil
 |cons n ns ih=>
  intro vs w
  rw[gI]at w
  cases w with
  |cons a b=>
   cases a
   exact .cons _ _ (ih _ b)
theorem xE{l:OpenLaw}(hn:l.most=some n){P:Params}{args:List WData}{vals:List Value}
  (hpre:l.row.toRowW.claim.pre args=true) (hwl:WellAll P h vals args):
  ∃a vs ns,vals=[Value.ref a]∧args=[WData.list (ns.map WData.int)]∧h.get? a=some {cls:=.type "list",data:=.seq vs.toArray}∧IntsAre vs ns∧ns.length≤n:=by
 have hsh:WShape.hasAll [] args [.list .int]=true:=(pre_splitW hpre).1
 have hc:l.pre.holds [] {args:=args}=true:=(pre_splitW hpre).2
 obtain⟨d,r,rfl,h1,h2⟩:=hasAllW_cons hsh
 obtain rfl:=hasAllW_nil h2
 obtain⟨xs,rfl,h3⟩:=hasW_list h1
 obtain⟨ns,rfl⟩:=items_int h3
 have hlen:ns.length≤n:=by
  unfold OpenLaw.pre at hc
  have h4:(WTm.not (.lt (.lit (.int (n:Int))) (.len (.arg 0)))).holds [] {args:=[.list (ns.map .int)]}=true:=by
   have h4:=(holds_andW hc).1
   rw[hn]at h4
   exact h4
  have h5:=condW_of h4 (w_not (w_lt w_lit (w_len_list (w_arg rfl))))
  rw[fw]at h5
  refine Nat.le_of_not_lt fun q=>?_
  have q':(n:Int) < ((ns.length:Nat):Int):=by omega
  first
   |(rw[zz4 q']at h5;exact absurd h5 (by decide))
   |(simp at h5;omega)
 cases hwl with
 |cons w1 w2=>
  cases w2
  cases w1 with
  |list ho hall=>exact⟨_,_,ns,rfl,rfl,ho,mR ns _ hall,hlen⟩
theorem xF(l:OpenLaw)(args:List WData):l.row.toRowW.claim.post args (.bool true) args=true:=
 postW_of (r:=l.row.toRowW) (X:=(true == true))
  (show WShape.has [] (.bool true) .bool=true by first |rfl |decide |simp[WShape.has,WShape.arms,WShape.armsAll])
  (show(WTm.eq .res (.lit (.bool true))).value [] {args:=args,res:=some (.bool true),after:=args}=some (.bool (true == true))from w_eq_bool (w_res rfl) w_lit) rfl
theorem rA{l:OpenLaw}{q:Program}{d:DefRec}
  (hn:l.most=some n) (hdf:d.params.defaults=[])
  (call:∀(w:World) (s₀ s₁:Shared) (mg mb:Str→Option Value) (fa:Addr) (o:Obj) (pm cd doc:Value) (a:Addr) (vs:List Value) (ns:List Int),
   Ground q loose [] XP w s₀ mg mb s₁.heap→YP w s₁.heap→
   s₁.heap.get? fa=some o→o.data=.func (docDef d.name d.params d.body d.scope pm cd doc)→s₁.heap.CodeRec cd d.name→mg d.name=some (.ref fa)→
   s₁.heap.get? a=some {cls:=.type "list",data:=.seq vs.toArray}→IntsAre vs ns→ns.length≤n→s₁.gens=#[]→
   codeAny (model l.prog w) callerA (.call (.ref fa) ⟨[.ref a],[]⟩) (fun r s'=>r=.ok (.ret (.bool true))∧OldK s₁.heap s'.heap∧s'.os=s₁.os∧AllBare s'.gens) s₁):
  WalkO q loose XP YP l.row.toRowW d [] (fun f vs=>PySem.call f vs):=by
 intro w s₀ s₁ mg mb G Y fa o pm cd doc dV kV ho hd hcd hD hmg hg args vals as hpre hlay hrd hwl hlo
 obtain rfl:dV=.none:=Dflts.none hD hdf
 obtain rfl:kV=.none:=Dflts.noKw hD
 obtain⟨a,vs,ns,rfl,rfl,hobj,hints,hlen⟩:=xE hn hpre hwl
 refine enter_call (codeAny_mono (call w s₀ s₁ mg mb fa o pm cd doc a vs ns G Y ho (fd_plain hd) hcd hmg hobj hints hlen hg) fun r s' hq=>?_)
 obtain⟨rfl,h2,h3,h4⟩:=hq
 exact⟨.inl ⟨.bool true,.bool true,[],rfl,fun _=>rfl,.bool true,xF l _,fun _=>⟨List.Pairwise.nil,fun _ hm=>(nomatch hm)⟩⟩,h2,h3,h4⟩
end Att
namespace L2
open PySem PySem.Spec PyProof.Rows
theorem jM:∀{vs:List Value} {ns:List Int},IntsAre vs ns→Vals (ns.map V.int) vs
 |_,_,.nil=>.nil
 |_,_,.cons n t h=>.cons ⟨t,rfl⟩ (jM h)
theorem ObjOk.tbl0{w:World}{b:Addr}(e:h.get? b=some (tabObj #[])):ObjOk P w H h b (.tbl q):=⟨#[],e,trivial,fun pos cv z=>by cases z⟩
end L2
namespace L2
open PySem PySem.Spec PyProof.Rows
def bY(s:Stmt):Arguments:=match s with
 | .FunctionDef _ a _ _ _ _ _ _ _ _=>a
 |_=>{posonlyargs:=[],args:=[],vararg:=none,kwonlyargs:=[],kw_defaults:=[],kwarg:=none,defaults:=[]}
def a6(s:Stmt):List Stmt:=match s with
 | .FunctionDef _ _ b _ _ _ _ _ _ _=>b
 |_=>[]
def ai(s:Stmt):Scope:=match s with
 | .FunctionDef _ _ _ _ _ _ sc _ _ _=>sc
 |_=>{kind:=.function,names:=[],isGenerator:=false,isCoroutine:=false}
abbrev nz:zR:=fun _ _ _ _ _ _=>False
abbrev E0:XK:=fun _ _ _=>False
theorem GU:tR nz X E0:=fun _ _ _ _ _ _ _ h=>h.elim
structure Fun (K:Frag) (x qual:Str) (st:Stmt) (f:Addr) (fd:FuncData):Prop where
 ex:∃(oc:Value) (od:Option Addr) (kV doc pm:Value) (an:Option Addr) (cdv ct:Value) (osl:Array (Option Value)),
  fd=fnOf x qual (bY st) (a6 st) (ai st) .none kV doc pm an cdv ct∧K.lookup f=some ⟨oc,od,.func fd,osl⟩∧codeIn K cdv qual=true
 kp:keepIn K (.ref f)=true
section
variable {P:Program} {w:World} {K:Frag} {mg:Str→Option Value} {base:Heap}
theorem Fun.ok{f:Addr}{N:List Str}(F:Fun K x qual st f fd)(S:FnScope N ps (ai st))(len:∀vs H Q E,sp vs H Q E→vs.length=ps.length)
  (hbody:∀(cdv:Value) (A:Around) (outer:List Env) (s:Shared) (H:Hp) (vs:List V) (Q:VK) (E:XK),Room k (A.deeper (envOfC qual (ai st) s.heap.objs.size f cdv))→sp vs H Q E→
   ∃t,PSs (gf nz P w K mg base N qual (ai st) f cdv A outer s H E).nox (a6 st) t∧t {nx:=fun _ H'=>Q .non H',rt:=Q} (dE N vs) H):FnOk P w K mg base nz (k+1) f fd ps sp:=by
 obtain⟨oc,od,kV,doc,pm,an,cdv,ct,osl,rfl,lk,hcd⟩:=F.ex
 refine vR lk hcd S len fun A outer s H vs Q E hr hsp=>?_
 obtain⟨t,h,q⟩:=hbody cdv A outer s H vs Q E hr hsp
 exact⟨t,h.nox,q⟩
theorem Fun.binds{f:Addr}(F:Fun K x qual st f fd)
  (h:∀(kV doc pm:Value) (an:Option Addr) (cdv ct:Value) (us:List Value),us.length=ps.length→bindArgs (fnOf x qual (bY st) (a6 st) (ai st) .none kV doc pm an cdv ct) ⟨us,[]⟩=pure (ps.zip us)):Binds K fd ps []:=by
 obtain⟨oc,od,kV,doc,pm,an,cdv,ct,osl,rfl,lk,hcd⟩:=F.ex
 exact .all (h kV doc pm an cdv ct)
theorem zX{f:Addr}{od:Option Addr}{kV ct:Value}(l:K.lookup f=some ⟨oc,od,.func (fnOf x qual (bY st) (a6 st) (ai st) .none kV doc pm an cdv ct),osl⟩)
  (c:codeIn K cdv qual=true) (k:keepIn K (.ref f)=true):Fun K x qual st f (fnOf x qual (bY st) (a6 st) (ai st) .none kV doc pm an cdv ct):=⟨⟨oc,od,kV,doc,pm,an,cdv,ct,osl,rfl,l,c⟩,k⟩
end
def Same(H H':Hp):Prop:=∀b o,H b=some o→H' b=some o
theorem Same.refl(H:Hp):Same H H:=fun _ _ h=>h
theorem Same.trans{H1 H2:Hp}(a:Same H H1)(b:Same H1 H2):Same H H2:=fun c o h=>b c o (a c o h)
theorem Same.free(e:Same H H'){l:Addr}(h:H' l=Option.none):H l=Option.none:=by
 cases q:H l with
 |none=>rfl
 |some o=>
  rw[e l o q]at h
  cases h
theorem Same.seq{K:Frag}(e:Same H H')(h:SqL K H a xs):SqL K H' a xs:=by
 rcases h with(h |⟨o,h⟩) |h
 ·exact .inl (.inl (e _ _ h))
 ·exact .inl (.inr ⟨o,e _ _ h⟩)
 ·exact .inr h
end L2
namespace NH
section
variable {α:Type} [DecidableEq α]
def JF(r:List (α×Int))(p:α×Int):List (α×Int):=
 match r with
 |[]=>if p.2=0 then []else [p]
 |q::r'=>if q.1=p.1 then (if q.2+p.2=0 then r' else (p.1,q.2+p.2)::r')else (if p.2=0 then q::r' else p::q::r')
def stk(c:List (α×Int)):List (α×Int):=c.foldl JF []
def q9(p x:α×Int):List (α×Int):=if x.1=p.1 then (if x.2+p.2=0 then []else [(p.1,x.2+p.2)])else (if p.2=0 then [x]else [p,x])
end
end NH
namespace L2
open PySem PySem.Spec PyProof.Rows
theorem fz{p:Addr}(h:H p=none)(o:HO):Same H (upd H p o):=fun b u q=>by rw[aF (bu q h)];exact q
theorem Same.tup{K:Frag}(e:Same H H')(h:SqT K H a xs):SqT K H' a xs:=by
 rcases h with(h |⟨o,h⟩) |h
 ·exact .inl (.inl (e _ _ h))
 ·exact .inl (.inr ⟨o,e _ _ h⟩)
 ·exact .inr h
mutual
inductive DOf (K:Frag) (H:Hp):V→PyData→Prop
 |non:DOf K H .non .none
 |bl (b:Bool):DOf K H (.bl b) (.bool b)
 |int (i:Int):DOf K H (.int i) (.int i)
 |str (x:Str):DOf K H (.str x) (.str x)
 |lst {a:Addr} {xs:List V} {ds:List PyData}:SqL K H a xs→DAll K H xs ds→DOf K H (.ref a) (.list ds)
 |tup {a:Addr} {xs:List V} {ds:List PyData}:SqT K H a xs→DAll K H xs ds→DOf K H (.ref a) (.tuple ds)
inductive DAll (K:Frag) (H:Hp):List V→List PyData→Prop
 |nil:DAll K H [] []
 |cons {x:V} {xs:List V} {d:PyData} {ds:List PyData}:DOf K H x d→DAll K H xs ds→DAll K H (x::xs) (d::ds)
end
section
variable {X:Cx} {pins:List (Addr×Obj)} {σ:St} {H:Hp} {s:Shared}
theorem DOf.reads(I:Inv X pins σ H s){x:V}{u:Value}(h:DOf X.K H x d)(r:RelV x u):∃as,Reads s.heap u d as:=DOf.rec (motive_1:=fun x d _=>∀{u:Value},RelV x u→∃as,Reads s.heap u d as) (motive_2:=fun xs ds _=>∀{us:List Value},Vals xs us→∃as,ReadsAll s.heap us ds as)
  (fun r=>by cases r;exact⟨_,Reads.none⟩) (fun b _ r=>by cases r;exact⟨_,Reads.bool b⟩) (fun i _ r=>by obtain⟨t,rfl⟩:=r;exact⟨_,Reads.int i t⟩) (fun x _ r=>by obtain⟨t,rfl⟩:=r;exact⟨_,Reads.str x t⟩)
  (fun hq _ ih _ r=>by
   cases r
   obtain⟨its,rv,⟨o,n,e,c,_,d⟩,_⟩:=I.list hq
   obtain⟨as,q⟩:=ih rv
   exact⟨_,reads_list_at e c d (by simpa using q)⟩)
  (fun hq _ ih _ r=>by
   cases r
   obtain⟨its,rv,⟨o,e,c,n,d⟩,_⟩:=I.tuple hq
   obtain⟨as,q⟩:=ih rv
   exact⟨_,reads_tuple_at e c d (by simpa using q)⟩)
  (fun r=>by cases r;exact⟨_,ReadsAll.nil⟩)
  (fun _ _ a b _ r=>by
   cases r with
   |cons r rt=>
    obtain⟨as,q⟩:=a r
    obtain⟨bs,p⟩:=b rt
    exact⟨_,ReadsAll.cons q p⟩) h r
end
def GV(K:Frag):R2:=fun x y H Q=>∃d e,DOf K H x d∧DOf K H y e∧SeqAt.shaped d=true∧SeqAt.shaped e=true∧Q (.bl (PyData.eqv d e)) H
def GW(K:Frag):R2:=fun x y H Q=>∃d e,DOf K H x d∧DOf K H y e∧SeqAt.shaped d=true∧SeqAt.shaped e=true∧Q (.bl (!PyData.eqv d e)) H
theorem zY(hu:X.A.units+64 < cLine):OpR X (compareOp .Eq) (GV X.K):=by
 intro pins s σ H x y v u Q I rx ry h
 obtain⟨d,e,hd,he,s1,s2,q⟩:=h
 obtain⟨as,ra⟩:=hd.reads I rx
 obtain⟨bs,rb⟩:=he.reads I ry
 exact eq_dataH ra rb s1 s2 hu ⟨.bl _,H,I,rfl,q⟩
theorem EV(hu:X.A.units+64 < cLine):OpR X (compareOp .NotEq) (GW X.K):=by
 intro pins s σ H x y v u Q I rx ry h
 obtain⟨d,e,hd,he,s1,s2,q⟩:=h
 obtain⟨as,ra⟩:=hd.reads I rx
 obtain⟨bs,rb⟩:=he.reads I ry
 exact ne_dataH ra rb s1 s2 hu ⟨.bl _,H,I,rfl,q⟩
end L2
namespace L2
open PySem PySem.Spec PyProof.Rows
section
variable {prog:Program} {w:World} {A:Around} {R:Result→Shared→Prop} {s:Shared}
theorem kU{elt target:Expr}{ifs:List Expr}{it acc:Value}{env:Env}(I:Nat→Shared→Prop)
  (turn:∀n s,I n s→wpAny (model prog w) A (pyNext it) (fun r s₁=>match r with
   |none=>R (.ok .next) s₁
   |some v=>wpAny (model prog w) A (letOwnedTupleGo target it v) (fun _ s₁'=>wpAny (model prog w) A (assign target env v) (fun _ s₂=>
     wpAny (model prog w) A (forIn ifs true fun c r=>if r=true then do let ok ←isTrue c env (eval c env);pure (ForInStep.yield ok)else pure (ForInStep.yield r)) (fun ok s₃=>
      if ok=true then wpAny (model prog w) A (eval elt env) (fun x s₄=>
       wpAny (model prog w) A (call (.builtin "list.append") [acc,x]) (fun _ s₅=>∃m,m < n∧I m s₅) (fun _ _=>False) s₄) (fun _ _=>False) s₃
      else ∃m,m < n∧I m s₃) (fun _ _=>False) s₂) (fun _ _=>False) s₁') (fun _ _=>False) s₁) (fun _ _=>False) s)
  (n:Nat) (h:I n s):
  codeAny (model prog w) A (.compLoop (.ListComp elt [⟨target,iter,ifs,0⟩] scope pos) 0 it acc env) R s:=by
 refine codeAny_loop rfl I (fun n s hI=>?_) n h
 show wpAny _ A ((compTurn (.ListComp elt [⟨target,iter,ifs,0⟩] scope pos) 0 it acc env).onRaise (fun x=>do noteFrame x env;theTreesLotGoes x)) _ _ s
 refine wpAny_noted ?_
 rw[compTurn_list]
 refine zz0 (wpAny_standAt (zz0 (zz2 (turn n s hI) (fun r s₁ h₁=>?_) fun _ _ h'=>h'.elim)))
 cases r with
 |none=>exact zz1 h₁
 |some v=>
  refine zz0 (zz2 h₁ (fun _ s₁' h₁'=>?_) fun _ _ h'=>h'.elim)
  refine zz0 (zz2 h₁' (fun _ s₂ h₂=>zz0 (zz2 h₂ (fun ok s₃ h₃=>?_) fun _ _ h'=>h'.elim)) fun _ _ h'=>h'.elim)
  cases ok with
  |false=>exact zz1 ⟨rfl,h₃⟩
  |true=>
   exact zz0 (zz0 (zz2 h₃ (fun x s₄ h₄=>zz0 (zz2 h₄ (fun _ s₅ h₅=>zz1 (zz1 ⟨rfl,h₅⟩)) fun _ _ h'=>h'.elim)) fun _ _ h'=>h'.elim))
end
def Cx.comp(X:Cx)(sc:Scope)(cl:List (Str×Addr))(N:List Str)(C:Addr)(s₀:Shared)(H₀:Hp)(fp:List Addr):Cx:=
 ⟨X.prog,X.w,X.K,X.mg,X.base,X.A,N,s₀,H₀,⟨sc,C,X.env.globals,cl,X.env.qual,none,X.env.code,X.env.frame,X.env.builtins⟩,X.stack,X.stack,fp,fun _=>false,X.calm,[],fun _ _=>False⟩
def EW(X:Cx)(ifs:List Expr)(t:TT):Prop:=
 ∀(pins:List (Addr×Obj)) (s:Shared) (σ:St) (H:Hp) (Q:Bool→Hp→Prop),Inv X pins σ H s→t σ H Q→
  wpAny (model X.prog X.w) X.A (forIn ifs true fun c r=>if r=true then do let ok ←isTrue c X.env (eval c X.env);pure (ForInStep.yield ok)else pure (ForInStep.yield r)) (TP X pins σ Q) X.xe s
def IF:TT:=fun _ H Q=>Q true H
theorem vT:EW X [] IF:=fun _ _ _ H _ I h=>wpAny_tests_nil ⟨H,I,h⟩
theorem vU{t:TT}(h:PT X c t):EW X [c] t:=fun pins s σ H Q I q=>wpAny_tests_one (h pins s σ H Q I q)
def slots(js:List (Option Nat))(σ:St):St:=js.map fun j=>j.bind fun j=>(σ[j]?).join
def pv(js:List (Option Nat))(wi:TI)(g:TG)(tt:TT)(te:TE):TE:=fun σ H Q=>wi σ H fun J H1=>∀l,H1 l=none→∃W:Nat→Nat→St→Hp→Prop,(∃m,W 0 m (slots js σ) (upd H1 l (.lst [])))∧
 ∀i m σ' H',W i m σ' H'→(J.stop i H'∧Q (.ref l) H')∨(J.go i H'∧∃N:St→Hp→Prop,(∀σ' H',N σ' H'→∃m',m' < m∧W (i+1) m' σ' H')∧∀x H2,J.yld i H' x H2→g x σ' H2 fun σ3 H3=>tt σ3 H3 fun b H4=>
  if b=true then te σ3 H4 fun y H5=>∃ys,H5 l=some (.lst ys)∧ys.length < sizeLine∧N σ3 (upd H5 l (.lst (ys++[y])))else N σ3 H4)
section
variable {X:Cx} {elt target iter:Expr} {ifs:List Expr} {scope sc:Scope} {cl:List (Str×Addr)} {N:List Str} {pos:Pos} {wi:TI} {g:TG} {tt:TT} {te:TE} {js:List (Option Nat)}
structure CompOk (X:Cx) (scope sc:Scope) (cl:List (Str×Addr)) (N:List Str) (js:List (Option Nat)):Prop where
 clos:closureFor scope X.env=pure cl
 rel:relabel scope X.env=sc
 nocell:∀y∈scope.names,y.2≠ .cell
 kind:scope.kind=.function
 names:∀y∈scope.names,y.2=.local→scope.names.lookup y.1=some .local
 same:∀x c,cl.lookup x=some c→X.env.cells.lookup x=some c
 has:∀x,(sc.names.lookup x=some .cell∨sc.names.lookup x=some .free)→∃c,cl.lookup x=some c
 len:js.length=N.length
 from_:∀(i j:Nat),js[i]? =some (some j)→∃x,N[i]? =some x∧X.N[j]? =some x∧(sc.names.lookup x=some .cell∨sc.names.lookup x=some .free)∧(X.env.kindOf x=some .cell∨X.env.kindOf x=some .free)
theorem rB{use:Option (Value→Sem Unit)}(K:CompOk X scope sc cl N js)(hc:X.calm=true)(hi:PI X target iter wi)
  (hgg:∀C s₀ H₀ fp,PG (X.comp sc cl N C s₀ H₀ fp) target g) (htt:∀C s₀ H₀ fp,EW (X.comp sc cl N C s₀ H₀ fp) ifs tt) (hee:∀C s₀ H₀ fp,PE (X.comp sc cl N C s₀ H₀ fp) elt te)
  (hs:∀x,foldedSetIterable iter X.env x=pure x) (pins:List (Addr×Obj)) (s:Shared) (σ:St) (H:Hp) (Q:VK) (I:Inv X pins σ H s) (h:pv js wi g tt te σ H Q)
  (hend:∀(D C:Addr) (H4:Hp) (s5:Shared) (m:Str→Option Value),Inv X pins σ H4 s5→s5.heap.Ns C m→H4 C=none→C≠X.env.locals→C∉X.fs→X.s₀.heap.objs.size≤C→(∀x c,X.env.cells.lookup x=some c→c≠C)→(∀p∈X.pn++pins,p.1≠C)→Q (.ref D) H4→
   compPost (model X.prog X.w) X.A X.xe use Qv (.ref D) C (.ok .next) s5):
  wpAny (model X.prog X.w) X.A (comprehension (.ListComp elt [⟨target,iter,ifs,0⟩] scope pos) scope X.env (firstIterPos [⟨target,iter,ifs,0⟩] pos) (newList []) false (firstIter [⟨target,iter,ifs,0⟩] X.env) use) Qv X.xe s:=by
 refine wpAny_comprehension_free (use:=use) rfl hs K.clos K.kind K.names (ce (hi pins s σ H _ I h) fun v s1 h1=>ce h1 fun itv s2 h2=>?_)
 obtain⟨it,fp,tn,J,H2,e,I2,T,st2,f2,R⟩:=h2
 subst e
 refine wpAny_newObj_type (wpAny_newFunctionEnv K.nocell (by intro y hy;simp at hy) (fun h₁ hns₁ hsb₁=>?_) K.kind)
 dsimp only at hns₁ hsb₁ ⊢
 have I3:Inv X pins σ (upd H2 s2.heap.objs.size (.lst [])) {s2 with heap:=s2.heap.push {cls:=.type "list",dict:=none,data:=.seq ([]:List Value).toArray}}:=
  I2.lnew (t':=s2.toks) (its:=[]) .nil (zz9 _)
 obtain⟨W,⟨m0,w0⟩,turn⟩:=R s2.heap.objs.size (I2.hok.fresh (eD _))
 generalize hP:s2.heap.push {cls:=.type "list",dict:=none,data:=.seq ([]:List Value).toArray}=h3 at hns₁ hsb₁ I3 ⊢
 generalize hD:s2.heap.objs.size=D at w0 turn I3 ⊢
 have hsz3:h3.objs.size=D+1:=by rw[←hP,rk,hD]
 have old3:∀b o,s2.heap.get? b=some o→h3.get? b=some o:=fun b o e=>by rw[←hP];exact eT _ e
 have old:∀b o,h3.get? b=some o→h₁.get? b=some o:=fun b o e=>hsb₁.extBut b o (eU (eI e)) (eT _ e)
 have fpD:∀b∈fp,b < D:=fun b hb=>by
  obtain⟨o,e,_⟩:=T.obj _ _ st2 b hb
  rw[←hD];exact eI e
 have frD:∀b∈fp,(upd H2 D (.lst [])) b=none:=fun b hb=>by rw[aF (eU (fpD b hb))];exact(f2 b hb).1
 have f3:∀b∈fp,ki X pins (upd H2 D (.lst [])) b:=fun b hb=>⟨frD b hb,(f2 b hb).2⟩
 have Hfresh:∀a,h3.objs.size≤a→(upd H2 D (.lst [])) a=none:=fun a ha=>I3.hok.fresh ha
 have cellC:∀x c,X.env.cells.lookup x=some c→c < h3.objs.size:=fun x c e=>by
  obtain⟨v,q⟩:=I3.cell x c e
  exact q.lt
 have YOk:(X.comp sc cl N h3.objs.size {s2 with heap:=h3} (upd H2 D (.lst [])) fp).Ok:=by
  refine⟨I3.ok.mod,?_,I3.ok.glob,I3.ok.blt,eD _,fun x y c e1 e2=>I3.ok.inj x y c (K.same x c e1) (K.same y c e2),fun x hx=>K.has x hx,fun x c hf _=>absurd hf (by intro z;cases z),I3.ok.hd,I3.ok.frames,.inl rfl,fun b hb=>⟨?_,fun x c e=>(f2 b hb).2.2.2.2.1 x c (K.same x c e)⟩,
   I3.bs,lL I3.ok.bsz I3.sz,fun b o e hb=>?_,fun b hb hm=>?_,I3.stack,I3.stkFree,I3.tab⟩
  ·rw[←K.rel];exact K.kind
  ·exact eU (by rw[hsz3];exact Zb (fpD b hb))
  ·rcases(f2 b hb).2.2.2.1 with z |z
   ·exact I3.ok.noex b o e z
   ·exact absurd (kT (eI (I3.ok.bs b o e).1) z) (Nat.lt_irrefl _)
  ·rcases Zai.mp (I3.stkSub b hm)with z |z
   ·exact(f2 b hb).2.1 z
   ·exact(f2 b hb).2.2.1 z
 have IY:Inv (X.comp sc cl N h3.objs.size {s2 with heap:=h3} (upd H2 D (.lst [])) fp) [] (slots js σ) (upd H2 D (.lst [])) {s2 with heap:=h₁,toks:=s2.toks+([]:List (Str×Value)).length}:=by
  refine⟨YOk,rfl,I3.bare,Un.kept old,⟨_,hns₁,fun i x v e1 e2 e3=>?_⟩,fun x c e=>?_,Hfresh _ (eD _),fun x c e=>I3.freeC x c (K.same x c e),fun p hp=>absurd (show p∈([]:List (Addr×Obj))from hp) (by simp),I3.hok.kept old,?_⟩
  ·unfold slots at e2
   rw[wT]at e2
   cases ej:js[i]? with
   |none=>rw[ej]at e2;cases e2
   |some jo=>
    rw[ej]at e2
    cases jo with
    |none=>cases e2
    |some j=>
     obtain⟨y,n1,n2,k1,k2⟩:=K.from_ i j ej
     have exy:y=x:=Option.some.inj (n1.symm.trans e1)
     subst exy
     have e2':(σ[j]?).join=some v:=Option.some.inj e2
     have e4:σ[j]? =some (some v):=by
      cases es:σ[j]? with
      |none=>rw[es]at e2';cases e2'
      |some w=>rw[es]at e2';exact congrArg some e2'
     obtain⟨m,_,hl⟩:=I3.loc
     obtain⟨u,ru,lk⟩:=hl j y v n2 e4 (by
      rcases k2 with z |z
      ·exact .inr (.inl z)
      ·exact .inr (.inr z))
     refine⟨u,ru,.inr ⟨k1,?_⟩⟩
     obtain⟨c,hcl⟩:=K.has y k1
     refine⟨c,hcl,?_⟩
     rcases lk with⟨z,_⟩ |⟨_,c',e5,ic⟩
     ·rcases k2 with q |q
      ·rw[q]at z;cases z
      ·rw[q]at z;cases z
     ·have:c'=c:=Option.some.inj (e5.symm.trans (K.same y c hcl))
      subst this
      obtain⟨o,ho,hd⟩:=ic
      exact⟨o,old _ _ ho,hd⟩
  ·obtain⟨v,o,ho,hd⟩:=I3.cell x c (K.same x c e)
   exact⟨v,o,old _ _ ho,hd⟩
  ·unfold slots;rw[fw];exact K.len
 have loop:∀s₃:Shared,s₃={s2 with heap:=h₁,toks:=s2.toks+([]:List (Str×Value)).length}→
   codeAny (model X.prog X.w) X.A (.compLoop (.ListComp elt [⟨target,iter,ifs,0⟩] scope pos) 0 (.ref it) (.ref D) (X.comp sc cl N h3.objs.size {s2 with heap:=h3} (upd H2 D (.lst [])) fp).env)
    (compPost (model X.prog X.w) X.A X.xe use Qv (.ref D) h3.objs.size) s₃:=by
  rintro s₃ rfl
  refine kU (fun n s'=>∃i σ' H',Inv (X.comp sc cl N h3.objs.size {s2 with heap:=h3} (upd H2 D (.lst [])) fp) [] σ' H' s'∧tn i s'.heap∧(∀b∈fp,H' b=none)∧W i n σ' H') ?_ m0
   ⟨0,_,_,IY,T.keep _ _ _ st2 (fun b hb o e=>old b o (old3 b o e)),frD,w0⟩
  rintro n s4 ⟨i,σ4,H4,I4,st4,fr4,w4⟩
  have ff:∀{H':Hp},(∀b∈fp,H' b=none)→∀b∈fp,ki (X.comp sc cl N h3.objs.size {s2 with heap:=h3} (upd H2 D (.lst [])) fp) [] H' b:=fun hn b hb=>
   ⟨hn b hb,(YOk.exf b hb).1,YOk.exfs b hb,.inl hb,(YOk.exf b hb).2,fun p hp=>absurd (show p∈([]:List (Addr×Obj))from hp) (by simp)⟩
  have hg:=hgg h3.objs.size {s2 with heap:=h3} (upd H2 D (.lst [])) fp
  have ht:=htt h3.objs.size {s2 with heap:=h3} (upd H2 D (.lst [])) fp
  have he:=hee h3.objs.size {s2 with heap:=h3} (upd H2 D (.lst [])) fp
  rcases turn i n σ4 H4 w4 with⟨stop,qn⟩ |⟨go,Nx,hN,step⟩
  ·refine ce (T.done (X.comp sc cl N h3.objs.size {s2 with heap:=h3} (upd H2 D (.lst [])) fp) rfl rfl rfl hc i [] s4 σ4 H4 _ I4 (ff fr4) st4 stop) fun r s5 ⟨hr,I5⟩=>?_
   subst hr
   obtain⟨m,hn,_⟩:=I5.loc
   have IX:Inv X pins σ H4 s5:=I3.call' (ch:=fp) I5.os I5.base I5.hok I5.bare fun b hb=>⟨(f3 b hb).2.2.2.1,(f3 b hb).2.1,(f3 b hb).2.2.2.2.1,(f3 b hb).2.2.2.2.2⟩
   exact hend D h3.objs.size H4 s5 m IX hn I5.free (Ne.symm (eU I3.lt)) (I3.nofs (eD _)) I3.sz (fun x c e=>eU (cellC x c e)) (fun p hp=>eU (eI (I3.pin p hp).1)) qn
  ·refine ce (T.item (X.comp sc cl N h3.objs.size {s2 with heap:=h3} (upd H2 D (.lst [])) fp) rfl rfl rfl hc i [] s4 σ4 H4 _ I4 (ff fr4) st4 go) fun r s5 ⟨u,hr,h5⟩=>?_
   subst hr
   refine ce h5 fun _ s6 ⟨x,H6,I6,r6,y6,st6,fr6⟩=>?_
   have I6':=I6.pinned (ff fr6) (T.obj _ _ st6)
   have back:∀{σ7:St} {H7:Hp} {s7:Shared},Inv (X.comp sc cl N h3.objs.size {s2 with heap:=h3} (upd H2 D (.lst [])) fp) ([]++kj fp s6.heap) σ7 H7 s7→
     Inv (X.comp sc cl N h3.objs.size {s2 with heap:=h3} (upd H2 D (.lst [])) fp) [] σ7 H7 s7∧tn (i+1) s7.heap∧∀b∈fp,H7 b=none:=fun {σ7 H7 s7} I7=>
    ⟨I7.unpinned,T.keep _ _ _ st6 fun b hb o e=>(I7.pin (b,o) (kf _ (kf _ (dD hb e)))).1,fun b hb=>by
     obtain⟨o,e,d⟩:=T.obj _ _ st6 b hb
     exact(I7.pin (b,o) (kf _ (kf _ (dD hb e)))).2.1⟩
   refine ce (hg _ s6 σ4 H6 x u _ I6' r6 (step x H6 y6)) fun _ s7 ⟨σ7,H7,I7,q7⟩=>?_
   refine ce (ht _ s7 σ7 H7 _ I7 q7) fun b s8 ⟨H8,I8,q8⟩=>?_
   cases b with
   |false=>
    obtain⟨m',hm,w8⟩:=hN σ7 H8 q8
    obtain⟨J1,J2,J3⟩:=back I8
    exact⟨m',hm,i+1,σ7,H8,J1,J2,J3,w8⟩
   |true=>
    refine ce (he _ s8 σ7 H8 _ I8 q8) fun yv s9 ⟨y,H9,I9,r9,ys,hl,hz,n9⟩=>?_
    obtain⟨m',hm,w9⟩:=hN _ _ n9
    refine ce (jL _ s9 σ7 H9 (.ref D) [y] (.ref D) [yv] (fun v H'=>v=.non∧H'=upd H9 D (.lst (ys++[y]))) I9 rfl (.cons r9 .nil) ⟨D,ys,y,rfl,rfl,hl,hz,rfl,rfl⟩) fun _ sA ⟨_,HA,IA,_,_,eA⟩=>?_
    subst eA
    obtain⟨J1,J2,J3⟩:=back IA
    exact⟨m',hm,i+1,σ7,_,J1,J2,J3,w9⟩
 rw[K.rel]
 exact codeAny_compStart_list (loop _ rfl) (T.self _ 0 _ _ _ (T.keep _ _ _ st2 (fun b hb o e=>old b o (old3 b o e))) (loop _ rfl))
theorem vV(K:CompOk X scope sc cl N js)(hc:X.calm=true)(hi:PI X target iter wi)
  (hgg:∀C s₀ H₀ fp,PG (X.comp sc cl N C s₀ H₀ fp) target g) (htt:∀C s₀ H₀ fp,EW (X.comp sc cl N C s₀ H₀ fp) ifs tt) (hee:∀C s₀ H₀ fp,PE (X.comp sc cl N C s₀ H₀ fp) elt te)
  (hs:∀x,foldedSetIterable iter X.env x=pure x:=by intro _;rfl):PE X (.ListComp elt [⟨target,iter,ifs,0⟩] scope pos) (pv js wi g tt te):=by
 intro pins s σ H Q I h
 rw[eval_ListComp]
 refine rB (use:=none) K hc hi hgg htt hee hs pins s σ H Q I h fun D C H4 s5 m IX hn fC nL _ sz nc np qn=>?_
 exact⟨m,hn,fun h' hs'=>⟨.ref D,H4,IX.turned (t':=s5.toks) (it:=C) (fun b o hb e=>(hs'.2 b hb).trans e) fC nL (.inr sz) nc np,rfl,qn⟩⟩
theorem Co{px spos:Pos}{gx:TG}(K:CompOk X scope sc cl N js)(hc:X.calm=true)(hx:PG X (.Name x px) gx)(hi:PI X target iter wi)
  (hgg:∀C s₀ H₀ fp,PG (X.comp sc cl N C s₀ H₀ fp) target g) (htt:∀C s₀ H₀ fp,EW (X.comp sc cl N C s₀ H₀ fp) ifs tt) (hee:∀C s₀ H₀ fp,PE (X.comp sc cl N C s₀ H₀ fp) elt te)
  (hs:∀x,foldedSetIterable iter X.env x=pure x:=by intro _;rfl) (hsw:swapsWith (.ListComp elt [⟨target,iter,ifs,0⟩] scope pos) (some (.Name x px)) spos.line X.env=pure true:=by rfl):
  PS X (.Assign [.Name x px] (.ListComp elt [⟨target,iter,ifs,0⟩] scope pos) spos) (GE (pv js wi g tt te) gx):=by
 intro pins s σ H D I h
 rw[exec_Assign_Name_used _ _ _ _ hsw]
 refine zz0 (wpAny_standAt (zz0 ?_))
 show wpAny _ _ (comprehension (.ListComp elt [⟨target,iter,ifs,0⟩] scope pos) scope X.env (firstIterPos [⟨target,iter,ifs,0⟩] pos) (newList []) false (firstIter [⟨target,iter,ifs,0⟩] X.env) (some (assign (.Name x px) X.env)) >>= fun _=>pure ()) _ _ _
 refine zz0 (zz2 (rB (use:=some (assign (.Name x px) X.env)) (Qv:=fun _ s'=>∃σ' H',Inv X pins σ' H' s'∧D.nx σ' H') K hc hi hgg htt hee hs pins s σ H _ I h fun Dd C H4 s5 m IX hn fC nL nF sz nc np qn=>?_) (fun _ s' ⟨σ',H',I',q'⟩=>zz1 (zz1 ⟨σ',H',I',q'⟩)) fun _ _ e=>e)
 obtain⟨o,es,ep,ho,hd,r⟩:=hn
 have IP:Inv X ((C,o)::pins) σ H4 s5:=IX.pins_of fun p hp=>(Zai.mp hp).elim (fun z=>by subst z;exact⟨ho,fC,nL,nF,fun v z=>by rw[hd]at z;cases z⟩) fun z=>IX.pin p (kf _ z)
 refine zz2 (hx ((C,o)::pins) s5 σ H4 (.ref Dd) (.ref Dd) D.nx IP rfl qn) (fun _ s6 ⟨σ6,H6,I6,q6⟩=>?_) fun _ _ e=>e
 obtain⟨p1,p2,_⟩:=I6.pin (C,o) (kf _ (jJ ..))
 have I7:Inv X pins σ6 H6 s6:=I6.pins_of fun p hp=>I6.pin p (kf _ (gW _ hp))
 exact⟨m,⟨o,es,ep,p1,hd,r⟩,fun h' hs'=>⟨σ6,H6,I7.turned (t':=s6.toks) (it:=C) (fun b o hb e=>(hs'.2 b hb).trans e) p2 nL (.inr sz) nc np,q6⟩⟩
end
end L2
namespace L2
open PySem PySem.Spec PyProof.Rows
theorem d0{N:List Str}(hf:∀x∈scope.names,x.2≠ .free:=by decide+kernel)(hcell:∀x∈scope.names,x.2≠ .cell:=by decide+kernel)
  (hk:scope.kind=.function:=by rfl) (hn:∀y∈scope.names,y.2=.local→scope.names.lookup y.1=some .local:=by decide+kernel) (hl:js.length=N.length:=by rfl) (hj:∀j∈js,j=none:=by decide):CompOk X scope scope [] N js where
 clos:=closureFor_none hf
 rel:=by
  unfold relabel
  have e:(scope.names.map fun(x:Str×NameKind)=>match x with |(n,k)=>if (k ==.free&&X.env.scope.kind ==.function&&X.env.kindOf n == some .cell)then (n,NameKind.cell)else (n,k))=scope.names:=by
   refine map_eq_self fun x hx=>?_
   obtain⟨n,k⟩:=x
   have:(k == NameKind.free)=false:=by simpa using hf _ hx
   simp[this]
  rw[e]
 nocell:=hcell
 kind:=hk
 names:=hn
 same:=fun x c e=>by simp at e
 has:=fun x h=>by
  rcases h with h |h
  ·exact absurd rfl (hcell _ (PySem.mem_of_lookup h))
  ·exact absurd rfl (hf _ (PySem.mem_of_lookup h))
 len:=hl
 from_:=fun i j h=>by
  have:=hj _ (List.mem_of_getElem? h)
  cases this
structure Own (P:Program) (w:World) (K:Frag) (mg:Str→Option Value) (base:Heap) (k:Nat) (x:Str) (ps:List Str) (sp:Sp):Prop where
 ex:∃(f:Addr) (fd:FuncData),FnOk P w K mg base nz k f fd ps sp∧Binds K fd ps []∧mg x=some (.ref f)∧keepIn K (.ref f)=true
theorem EY{es:List Expr}{t:TA}(D:Own X.prog X.w X.K X.mg X.base k x ps sp)(hr:Room k X.A)(hg:Gl X x)(ha:PA X (e::es) t)
  (hdb:(x == ("__debug__":Str))=false:=by decide) (he:starEach (e::es) X.env=(false,eval e X.env)::starEach es X.env:=by rfl) (hpl:(backTo pos (starEach es X.env)).any (·.1)=false:=by rfl):
  PE X (.Call (.Name x p) (e::es) [] pos) (zS sp [] E0 t):=by
 obtain⟨f,fd,F,b,m,kp⟩:=D.ex
 exact Ce F hr hg m kp b .nil GU ha hdb he hpl
structure Def (K:Frag) (mg:Str→Option Value) (x:Str) (st:Stmt) (ps:List Str):Prop where
 ex:∃(f:Addr) (fd:FuncData),Fun K x x st f fd∧mg x=some (.ref f)∧Binds K fd ps []
theorem Def.own{w:World}{K:Frag}{mg:Str→Option Value}{base:Heap}{N:List Str}(D:Def K mg x st ps)(S:FnScope N ps (ai st))
  (len:∀vs H Q E,sp vs H Q E→vs.length=ps.length)
  (hbody:∀(f:Addr) (cdv:Value) (A:Around) (outer:List Env) (s:Shared) (H:Hp) (vs:List V) (Q:VK) (E:XK),Room k (A.deeper (envOfC x (ai st) s.heap.objs.size f cdv))→sp vs H Q E→
   ∃t,PSs (gf nz P w K mg base N x (ai st) f cdv A outer s H E).nox (a6 st) t∧t {nx:=fun _ H'=>Q .non H',rt:=Q} (dE N vs) H):Own P w K mg base (k+1) x ps sp:=by
 obtain⟨f,fd,F,m,b⟩:=D.ex
 exact⟨f,fd,F.ok S len (hbody f),b,m,F.kp⟩
theorem EZ{K:Frag}{mg:Str→Option Value}{f:Addr}{od:Option Addr}{kV ct:Value}(X:K.In h)(G:h.Ns mainGlobals mg)
  (a:nsIn K mainGlobals x=some (some (.ref f))) (l:K.lookup f=some ⟨oc,od,.func (fnOf x x (bY st) (a6 st) (ai st) .none kV doc pm an cdv ct),osl⟩)
  (c:codeIn K cdv x=true) (k:keepIn K (.ref f)=true)
  (b:∀(kV doc pm:Value) (an:Option Addr) (cdv ct:Value) (us:List Value),us.length=ps.length→bindArgs (fnOf x x (bY st) (a6 st) (ai st) .none kV doc pm an cdv ct) ⟨us,[]⟩=pure (ps.zip us)):Def K mg x st ps:=
 ⟨f,_,zX l c k,mg_of X G a,(zX (st:=st) l c k).binds b⟩
end L2
namespace Nh
open PySem L2
section
variable {α β:Type} {F:α→β→Prop}
theorem jN:∀{a:List α} {b:List β} {c:List α} {d:List β},Paired F a b→Paired F c d→Paired F (a++c) (b++d)
 |_,_,_,_,.nil,s=>s
 |_,_,_,_,.cons r t,s=>.cons r (jN t s)
theorem vW:∀{a:List α} {b:List β} (n:Nat),Paired F a b→Paired F (a.take n) (b.take n)
 |_,_,0,_=>.nil
 |_,_,_+1,.nil=>.nil
 |_,_,n+1,.cons r t=>.cons r (vW n t)
theorem vX:∀{a:List α} {b:List β} (n:Nat),Paired F a b→Paired F (a.drop n) (b.drop n)
 |_,_,0,r=>r
 |_,_,_+1,.nil=>.nil
 |_,_,n+1,.cons _ t=>vX n t
theorem kl:∀{a:List α} {b:List β},Paired F a b→Paired F a.reverse b.reverse
 |_,_,.nil=>.nil
 |_,_,.cons r t=>by
  rw[List.reverse_cons,List.reverse_cons]
  exact jN (kl t) (.cons r .nil)
theorem vY:∀{a:List α} {b:List β} {i:Nat} {y:β},Paired F a b→b[i]? =some y→∃x,a[i]? =some x∧F x y
 |_,_,_,_,.nil,e=>by simp at e
 |_,_,0,_,.cons r _,e=>by simp at e;subst e;exact⟨_,rfl,r⟩
 |_,_,i+1,x,.cons _ t,e=>by
  obtain⟨u,h1,h2⟩:=vY (i:=i) (y:=x) t (by simpa using e)
  exact⟨u,by simpa using h1,h2⟩
theorem zZ{a:List α}{b:List β}(h:Paired F a b):∀k:Nat,Paired F (List.replicate k a).flatten (List.replicate k b).flatten
 | 0=>.nil
 |k+1=>by
  rw[List.replicate_succ,List.replicate_succ,List.flatten_cons,List.flatten_cons]
  exact jN h (zZ h k)
end
end Nh
namespace PL
open PySem PySem.Spec PyProof.Rows L2 Nh
def IG:iQ→PyData
 |.inl i=>.int i
 |.inr x=>.str x
def eV(a C:Addr):Heap→Prop:=fun h=>∃o,h.get? a=some o∧o.cls=.ref C
mutual
inductive Rp (K:Frag) (H:Hp):V→PyData→Prop
 |non:Rp K H .non .none
 |bl (b:Bool):Rp K H (.bl b) (.bool b)
 |int (i:Int):Rp K H (.int i) (.int i)
 |str (x:Str):Rp K H (.str x) (.str x)
 |lst {a:Addr} {xs:List V} {ds:List PyData}:SqL K H a xs→RpA K H xs ds→Rp K H (.ref a) (.list ds)
 |tup {a:Addr} {xs:List V} {ds:List PyData}:SqT K H a xs→RpA K H xs ds→Rp K H (.ref a) (.tuple ds)
 |dct {a:Addr} {us:List (iQ×V)} {kvs:List (PyData×PyData)}:Rd H a (.dK us)→RpK K H us kvs→Rp K H (.ref a) (.dict kvs)
 |exc {a C:Addr} {n:Str} {o:Obj}:H a=some (.frz o (.ext (eV a C)))→nsIn K mainGlobals n=some (some (.ref C))→Rp K H (.ref a) (.dict [(.none,.str n)])
inductive RpA (K:Frag) (H:Hp):List V→List PyData→Prop
 |nil:RpA K H [] []
 |cons {x:V} {xs:List V} {d:PyData} {ds:List PyData}:Rp K H x d→RpA K H xs ds→RpA K H (x::xs) (d::ds)
inductive RpK (K:Frag) (H:Hp):List (iQ×V)→List (PyData×PyData)→Prop
 |nil:RpK K H [] []
 |cons {k:iQ} {x:V} {us:List (iQ×V)} {d:PyData} {kvs:List (PyData×PyData)}:Rp K H x d→RpK K H us kvs→RpK K H ((k,x)::us) ((IG k,d)::kvs)
end
mutual
def dP:PyData→Bool
 |.none=>true
 |.bool _=>true
 |.int _=>true
 |.str _=>true
 |.list _=>false
 |.tuple xs=>bR xs
 |.dict _=>false
def bR:List PyData→Bool
 |[]=>true
 |d::ds=>dP d&&bR ds
end
def DS:HO→Bool
 |.tup _=>true
 |.frz _ _=>true
 |_=>false
def tups(H:Hp):Hp:=fun b=>(H b).filter DS
theorem jO(H:Hp):Same (tups H) H:=fun b o h=>(Option.filter_eq_some_iff.mp h).1
theorem kW{b:Addr}{o:HO}(h:H b=some o)(c:DS o=true):tups H b=some o:=Option.filter_eq_some_iff.mpr ⟨h,c⟩
theorem nE{l:Addr}{ys:List V}(h:H l=some (.lst xs)):tups (upd H l (.lst ys))=tups H:=by
 funext b
 unfold tups
 by_cases e:b=l
 ·subst e
  rw[upd_same,h]
  rfl
 ·rw[aF e]
section
variable {K:Frag} {H H':Hp}
theorem rC(h:SqT K H a xs):SqT K (tups H) a xs:=by
 rcases h with(h |⟨o,h⟩) |h
 ·exact .inl (.inl (kW h rfl))
 ·exact .inl (.inr ⟨o,kW h rfl⟩)
 ·exact .inr h
theorem qj{u:HO}(s:Same H H')(h:Rd H a u):Rd H' a u:=by
 rcases h with h |⟨o,h⟩
 ·exact .inl (s _ _ h)
 ·exact .inr ⟨o,s _ _ h⟩
theorem Rp.same(s:Same H H')(h:Rp K H v d):Rp K H' v d:=Rp.rec (motive_1:=fun v d _=>Rp K H' v d) (motive_2:=fun v d _=>RpA K H' v d) (motive_3:=fun v d _=>RpK K H' v d) .non .bl .int .str (fun h _ r=>.lst (s.seq h) r) (fun h _ r=>.tup (s.tup h) r) (fun h _ r=>.dct (qj s h) r) (fun h r=>.exc (s _ _ h) r) .nil (fun _ _ a b=>.cons a b) .nil (fun _ _ a b=>.cons a b) h
theorem RpA.same(s:Same H H'){v:List V}{d:List PyData}(h:RpA K H v d):RpA K H' v d:=RpA.rec (motive_1:=fun v d _=>Rp K H' v d) (motive_2:=fun v d _=>RpA K H' v d) (motive_3:=fun v d _=>RpK K H' v d) .non .bl .int .str (fun h _ r=>.lst (s.seq h) r) (fun h _ r=>.tup (s.tup h) r) (fun h _ r=>.dct (qj s h) r) (fun h r=>.exc (s _ _ h) r) .nil (fun _ _ a b=>.cons a b) .nil (fun _ _ a b=>.cons a b) h
theorem RpK.same(s:Same H H'){v:List (iQ×V)}{d:List (PyData×PyData)}(h:RpK K H v d):RpK K H' v d:=RpK.rec (motive_1:=fun v d _=>Rp K H' v d) (motive_2:=fun v d _=>RpA K H' v d) (motive_3:=fun v d _=>RpK K H' v d) .non .bl .int .str (fun h _ r=>.lst (s.seq h) r) (fun h _ r=>.tup (s.tup h) r) (fun h _ r=>.dct (qj s h) r) (fun h r=>.exc (s _ _ h) r) .nil (fun _ _ a b=>.cons a b) .nil (fun _ _ a b=>.cons a b) h
theorem Rp.cold(h:Rp K H v d)(e:dP d=true):Rp K (tups H) v d:=Rp.rec (motive_1:=fun v d _=>dP d=true→Rp K (tups H) v d) (motive_2:=fun v d _=>bR d=true→RpA K (tups H) v d) (motive_3:=fun _ _ _=>True) (fun _=>.non) (fun b _=>.bl b) (fun i _=>.int i) (fun x _=>.str x) (fun _ _ _ e=>nomatch e) (fun h _ r e=>.tup (rC h) (r e)) (fun _ _ _ e=>nomatch e) (fun _ _ e=>nomatch e) (fun _=>.nil) (fun _ _ a b e=>.cons (a (Bool.and_eq_true_iff.mp e).1) (b (Bool.and_eq_true_iff.mp e).2)) trivial (fun _ _ _ _=>trivial) h e
theorem RpA.cold{v:List V}{d:List PyData}(h:RpA K H v d)(e:bR d=true):RpA K (tups H) v d:=RpA.rec (motive_1:=fun v d _=>dP d=true→Rp K (tups H) v d) (motive_2:=fun v d _=>bR d=true→RpA K (tups H) v d) (motive_3:=fun _ _ _=>True) (fun _=>.non) (fun b _=>.bl b) (fun i _=>.int i) (fun x _=>.str x) (fun _ _ _ e=>nomatch e) (fun h _ r e=>.tup (rC h) (r e)) (fun _ _ _ e=>nomatch e) (fun _ _ e=>nomatch e) (fun _=>.nil) (fun _ _ a b e=>.cons (a (Bool.and_eq_true_iff.mp e).1) (b (Bool.and_eq_true_iff.mp e).2)) trivial (fun _ _ _ _=>trivial) h e
theorem Rp.dof'(h:Rp K H v d)(e:d.canLay0=true):DOf K H v d:=Rp.rec (motive_1:=fun v d _=>d.canLay0=true→DOf K H v d) (motive_2:=fun v d _=>PyData.canLayAll0 d=true→DAll K H v d) (motive_3:=fun _ _ _=>True) (fun _=>.non) (fun b _=>.bl b) (fun i _=>.int i) (fun x _=>.str x) (fun h _ r e=>.lst h (r e)) (fun h _ r e=>.tup h (r e)) (fun _ _ _ e=>nomatch e) (fun _ _ e=>nomatch e) (fun _=>.nil) (fun _ _ a b e=>.cons (a (Bool.and_eq_true_iff.mp e).1) (b (Bool.and_eq_true_iff.mp e).2)) trivial (fun _ _ _ _=>trivial) h e
theorem Rp.dof(h:Rp K H v d)(e:SeqAt.shaped d=true):DOf K H v d:=h.dof' (SeqAt.canLay_of_shaped e)
theorem RpA.pr(h:RpA K H vs ds):Paired (Rp K H) vs ds:=RpA.rec (motive_1:=fun _ _ _=>True) (motive_2:=fun v d _=>Paired (Rp K H) v d) (motive_3:=fun _ _ _=>True) trivial (fun _=>trivial) (fun _=>trivial) (fun _=>trivial) (fun _ _ _=>trivial) (fun _ _ _=>trivial) (fun _ _ _=>trivial) (fun _ _=>trivial) .nil (fun h _ _ b=>.cons h b) trivial (fun _ _ _ _=>trivial) h
theorem RpA.of(h:Paired (Rp K H) vs ds):RpA K H vs ds:=by
 induction h with
 |nil=>exact .nil
 |cons a _ b=>exact .cons a b
theorem RpA.len(h:RpA K H vs ds):vs.length=ds.length:=Paired.length h.pr
theorem RpA.append{us:List V}{es:List PyData}(h:RpA K H vs ds)(k:RpA K H us es):RpA K H (vs++us) (ds++es):=.of (jN h.pr k.pr)
theorem RpA.take(n:Nat)(h:RpA K H vs ds):RpA K H (vs.take n) (ds.take n):=.of (vW n h.pr)
theorem RpA.drop(n:Nat)(h:RpA K H vs ds):RpA K H (vs.drop n) (ds.drop n):=.of (vX n h.pr)
theorem RpA.rev(h:RpA K H vs ds):RpA K H vs.reverse ds.reverse:=.of (kl h.pr)
theorem RpA.rep(n:Nat)(h:RpA K H vs ds):RpA K H (List.replicate n vs).flatten (List.replicate n ds).flatten:=.of (zZ h.pr n)
theorem RpA.get{i:Nat}(h:RpA K H vs ds)(e:ds[i]? =some d):∃v,vs[i]? =some v∧Rp K H v d:=vY h.pr e
theorem RpA.snoc(h:RpA K H vs ds)(k:Rp K H v d):RpA K H (vs++[v]) (ds++[d]):=h.append (.cons k .nil)
end
inductive Pt where
 |fl (d:PyData) |ol (ds:List PyData)
def Pt.val:Pt→PyData
 |.fl d=>d
 |.ol ds=>.list ds
inductive Sl where
 /-- nothing is known -/
 |no
 /-- never written again -/
 |sh (d:PyData)
 /-- a list of one's own -/
 |ow (ds:List PyData)
 /-- a dict of one's own,its values lists of one's own -/
 |od (kvs:List (iQ×List PyData))
 /-- a tuple with lists of one's own -/
 |tx (ps:List Pt)
 /-- (a part of an expression) the value of a name -/
 |al (i:Nat)
 /-- (a part of an expression) as it stands just now -/
 |br (d:PyData)
def PtsOk(K:Frag)(F H:Hp):List V→List Pt→List Addr→Prop
 |[],[],A=>A=[]
 |v::vs,.fl d::ps,A=>Rp K F v d∧PtsOk K F H vs ps A
 |v::vs,.ol ds::ps,A=>∃l us A',v=.ref l∧A=l::A'∧H l=some (.lst us)∧RpA K F us ds∧PtsOk K F H vs ps A'
 |_,_,_=>False
def DlOk(K:Frag)(F H:Hp):List (iQ×V)→List (iQ×List PyData)→List Addr→Prop
 |[],[],A=>A=[]
 |p::us,q::kvs,A=>∃l vs A',p=(q.1,.ref l)∧A=l::A'∧H l=some (.lst vs)∧RpA K F vs q.2∧DlOk K F H us kvs A'
 |_,_,_=>False
def SlOk(K:Frag)(F H:Hp)(σ:L2.St)(o:Option V):Sl→List Addr→Prop
 |.no,A=>A=[]
 |.sh d,A=>A=[]∧∃v,o=some v∧Rp K F v d
 |.ow ds,A=>∃l vs,o=some (.ref l)∧A=[l]∧H l=some (.lst vs)∧RpA K F vs ds
 |.od kvs,A=>∃l us A',o=some (.ref l)∧A=l::A'∧H l=some (.dK us)∧DlOk K F H us kvs A'
 |.tx ps,A=>∃t vs,o=some (.ref t)∧F t=some (.tup vs)∧PtsOk K F H vs ps A
 |.al i,A=>A=[]∧∃v,o=some v∧σ[i]? =some (some v)
 |.br d,A=>A=[]∧∃v,o=some v∧Rp K H v d
def Sl.isBr:Sl→Bool
 |.br _=>true
 |_=>false
def Sl.isAl:Sl→Bool
 |.al _=>true
 |.br _=>true
 |_=>false
section
variable {K:Frag} {F F' H H':Hp} {σ σ':L2.St}
theorem PtsOk.stay(s:Same F F'):∀{vs:List V} {ps:List Pt} {A:List Addr},(∀b∈A,H' b=H b)→PtsOk K F H vs ps A→PtsOk K F' H' vs ps A
 |[],[],A,_,h=>h
 |v::vs,.fl d::ps,A,e,h=>⟨h.1.same s,PtsOk.stay s e h.2⟩
 |v::vs,.ol ds::ps,A,e,h=>by
  obtain⟨l,us,A',rfl,rfl,hl,hr,q⟩:=h
  exact⟨l,us,A',rfl,rfl,(e l (jJ ..)).trans hl,hr.same s,q.stay s fun b hb=>e b (gW _ hb)⟩
 |[],_::_,_,_,h=>False.elim h
 |_::_,[],_,_,h=>False.elim h
theorem DlOk.stay(s:Same F F'):∀{us:List (iQ×V)} {kvs:List (iQ×List PyData)} {A:List Addr},(∀b∈A,H' b=H b)→DlOk K F H us kvs A→DlOk K F' H' us kvs A
 |[],[],A,_,h=>h
 |p::us,q::kvs,A,e,h=>by
  obtain⟨l,vs,A',rfl,rfl,hl,hr,k⟩:=h
  exact⟨l,vs,A',rfl,rfl,(e l (jJ ..)).trans hl,hr.same s,k.stay s fun b hb=>e b (gW _ hb)⟩
 |[],_::_,_,_,h=>False.elim h
 |_::_,[],_,_,h=>False.elim h
theorem DlOk.some:∀{us:List (iQ×V)} {kvs:List (iQ×List PyData)} {A:List Addr},DlOk K F H us kvs A→∀a∈A,∃vs,H a=some (.lst vs)
 |[],[],A,h,a,ha=>by rw[show A=[]from h]at ha;cases ha
 |p::us,q::kvs,A,h,a,ha=>by
  obtain⟨l,vs,A',rfl,rfl,hl,hr,k⟩:=h
  rcases Zai.mp ha with e |e
  ·subst e;exact⟨vs,hl⟩
  ·exact k.some a e
 |[],_::_,_,h,_,_=>False.elim h
 |_::_,[],_,h,_,_=>False.elim h
theorem PtsOk.some:∀{vs:List V} {ps:List Pt} {A:List Addr},PtsOk K F H vs ps A→∀a∈A,∃us,H a=some (.lst us)
 |[],[],A,h,a,ha=>by rw[show A=[]from h]at ha;cases ha
 |v::vs,.fl d::ps,A,h,a,ha=>PtsOk.some h.2 a ha
 |v::vs,.ol ds::ps,A,h,a,ha=>by
  obtain⟨l,us,A',rfl,rfl,hl,hr,q⟩:=h
  rcases Zai.mp ha with e |e
  ·subst e;exact⟨us,hl⟩
  ·exact q.some a e
 |[],_::_,_,h,_,_=>False.elim h
 |_::_,[],_,h,_,_=>False.elim h
theorem PtsOk.rp(s:Same F H):∀{vs:List V} {ps:List Pt} {A:List Addr},PtsOk K F H vs ps A→RpA K H vs (ps.map Pt.val)
 |[],[],A,_=>.nil
 |v::vs,.fl d::ps,A,h=>.cons (h.1.same s) (PtsOk.rp s h.2)
 |v::vs,.ol ds::ps,A,h=>by
  obtain⟨l,us,A',rfl,rfl,hl,hr,q⟩:=h
  exact .cons (.lst (SqL.of hl) (hr.same s)) (q.rp s)
 |[],_::_,_,h=>False.elim h
 |_::_,[],_,h=>False.elim h
theorem SlOk.stay{o:Option V}{s:Sl}{A:List Addr}(hF:Same F F')(e:∀b∈A,H' b=H b)(hb:s.isBr=true→Same H H')(h:SlOk K F H σ o s A):SlOk K F' H' σ o s A:=by
 cases s with
 |no=>exact h
 |sh d=>obtain⟨rfl,v,rfl,r⟩:=h;exact⟨rfl,v,rfl,r.same hF⟩
 |ow ds=>obtain⟨l,vs,rfl,rfl,hl,r⟩:=h;exact⟨l,vs,rfl,rfl,(e l (by simp)).trans hl,r.same hF⟩
 |od kvs=>obtain⟨l,us,A',rfl,rfl,hl,r⟩:=h;exact⟨l,us,A',rfl,rfl,(e l (by simp)).trans hl,r.stay hF fun b hb=>e b (gW _ hb)⟩
 |tx ps=>obtain⟨t,vs,rfl,ht,r⟩:=h;exact⟨t,vs,rfl,hF _ _ ht,r.stay hF e⟩
 |al i=>exact h
 |br d=>obtain⟨rfl,v,rfl,r⟩:=h;exact⟨rfl,v,rfl,r.same (hb rfl)⟩
theorem SlOk.mut{o:Option V}{s:Sl}{A:List Addr}(h:SlOk K F H σ o s A):∀a∈A,(∃us,H a=some (.lst us))∨∃us,H a=some (.dK us):=by
 cases s with
 |no=>intro a ha;rw[show A=[]from h]at ha;cases ha
 |sh d=>obtain⟨rfl,_⟩:=h;intro a ha;cases ha
 |ow ds=>obtain⟨l,vs,rfl,rfl,hl,r⟩:=h;intro a ha;rw[Zac.mp ha];exact .inl ⟨_,hl⟩
 |od kvs=>
  obtain⟨l,vs,A',rfl,rfl,hl,r⟩:=h
  intro a ha
  rcases Zai.mp ha with z |z
  ·rw[z];exact .inr ⟨_,hl⟩
  ·exact .inl (r.some a z)
 |tx ps=>obtain⟨t,vs,rfl,ht,r⟩:=h;exact fun a ha=>.inl (r.some a ha)
 |al i=>obtain⟨rfl,_⟩:=h;intro a ha;cases ha
 |br d=>obtain⟨rfl,_⟩:=h;intro a ha;cases ha
end
inductive SAll (P:Option V→Sl→List Addr→Prop):List (Option V)→List Sl→List Addr→Prop
 |nil:SAll P [] [] []
 |cons {o:Option V} {s:Sl} {A:List Addr} {os:List (Option V)} {ss:List Sl} {B:List Addr}:P o s A→SAll P os ss B→SAll P (o::os) (s::ss) (A++B)
section
variable {P P':Option V→Sl→List Addr→Prop}
theorem SAll.len{os:List (Option V)}{ss:List Sl}{A:List Addr}(h:SAll P os ss A):os.length=ss.length:=by
 induction h with
 |nil=>rfl
 |cons _ _ b=>exact congrArg (· +1) b
theorem SAll.mono{os:List (Option V)}{ss:List Sl}{A:List Addr}(h:SAll P os ss A):(∀o s B,s∈ss→(∀b∈B,b∈A)→P o s B→P' o s B)→SAll P' os ss A:=by
 induction h with
 |nil=>exact fun _=>.nil
 |cons h _ r=>exact fun f=>.cons (f _ _ _ (jJ ..) (fun b hb=>wR _ hb) h) (r fun o s B hs hB q=>f o s B (gW _ hs) (fun b hb=>kf _ (hB b hb)) q)
theorem SAll.all{R:Addr→Prop}(hR:∀o s B,P o s B→∀b∈B,R b){os:List (Option V)}{ss:List Sl}{A:List Addr}(h:SAll P os ss A):∀a∈A,R a:=by
 induction h with
 |nil=>exact fun _ ha=>nomatch ha
 |cons h _ r=>exact fun a ha=>(Zaf.mp ha).elim (hR _ _ _ h a) (r a)
theorem SAll.at:∀{os:List (Option V)} {ss:List Sl} {A:List Addr} {k:Nat} {s:Sl},SAll P os ss A→ss[k]? =some s→
  ∃o A0 A1 A2,A=A0++(A1++A2)∧os[k]? =some o∧P o s A1∧∀(P':Option V→Sl→List Addr→Prop) (o':Option V) (s':Sl) (A1':List Addr),P' o' s' A1'→
   (∀o s B,s∈ss→(∀b∈B,b∈A0∨b∈A2)→P o s B→P' o s B)→SAll P' (os.set k o') (ss.set k s') (A0++(A1'++A2))
 |_,_,_,_,_,.nil,e=>by simp at e
 |_,_,_,0,s,.cons (o:=o) (A:=A) (B:=B) h r,e=>by
  simp at e;subst e
  refine⟨o,[],A,B,by simp,rfl,h,fun P' o' s' A1' h' f=>?_⟩
  have z:SAll P' _ _ (A1'++B):=.cons h' (r.mono (P':=P') fun o s B hs hB q=>f o s B (gW _ hs) (fun b hb=>.inr (hB b hb)) q)
  exact z
 |_,_,_,k+1,s,.cons (o:=o) (A:=A) (B:=B) h r,e=>by
  obtain⟨o2,A0,A1,A2,eA,eo,hp,f⟩:=r.at (k:=k) (s:=s) (by simpa using e)
  subst eA
  refine⟨o2,A++A0,A1,A2,by simp,by simpa using eo,hp,fun P' o' s' A1' h' g=>?_⟩
  have z:=f P' o' s' A1' h' fun o s B hs hB q=>g o s B (gW _ hs) (fun b hb=>(hB b hb).imp (fun x=>kf _ x) id) q
  rw[List.append_assoc]
  exact .cons (g _ _ _ (jJ ..) (fun b hb=>.inl (wR _ hb)) h) z
end
end PL
variable {E ss Xs E1 E' E2:List Sl} {s1 s2:Sl}
namespace PL
open PySem L2 Nh
abbrev Sg:=L2.St
structure FrF (K:Frag) (B F:Hp) (A:List Addr) (σ:Sg) (H:Hp) (E:List Sl) (xs:List V) (Xs:List Sl):Prop where
 bf:Same B F
 fh:Same F H
 tf:Same (tups H) F
 sl:SAll (SlOk K F H σ) (xs.map some++σ) (Xs++E) A
 nd:A.Nodup
 fr:∀a∈A,F a=none
 len:xs.length=Xs.length
 pl:∀s∈E,s.isAl=false
def Frm(K:Frag)(B:Hp)(σ:Sg)(H:Hp)(E:List Sl)(xs:List V)(Xs:List Sl):Prop:=∃F A,FrF K B F A σ H E xs Xs
def Sl.val:Sl→Option PyData
 |.sh d=>some d
 |.ow ds=>some (.list ds)
 |.tx ps=>some (.tuple (ps.map Pt.val))
 |.br d=>some d
 |_=>none
def look(E:List Sl):Sl→Option PyData
 |.al i=>(E[i]?).bind Sl.val
 |s=>s.val
def Cp:Sl→Bool
 |.br _=>true
 |.tx _=>true
 |_=>false
def pw(E:List Sl):Sl→Bool
 |.al i=>(E[i]?).any Cp
 |s=>Cp s
def RpF(K:Frag)(F H:Hp)(v:V):PyData→Prop
 |.list ds=>∃a vs,v=.ref a∧SqL K H a vs∧RpA K F vs ds
 |d=>Rp K F v d
def rD(F H:Hp)(A:List Addr):Hp:=fun b=>if b∈A then H b else F b
theorem qk{A:List Addr}{b:Addr}(h:b∈A):rD F H A b=H b:=if_pos h
theorem nG{A:List Addr}{b:Addr}(h:b∉A):rD F H A b=F b:=if_neg h
section
variable {K:Frag} {B F:Hp} {A:List Addr} {σ:Sg} {H:Hp} {E:List Sl} {xs:List V} {Xs:List Sl} {v:V} {s:Sl} {d:PyData}
theorem RpF.of(h:Rp K F v d)(s:Same F H):RpF K F H v d:=by
 cases h with
 |lst h r=>exact⟨_,_,rfl,s.seq h,r⟩
 |non=>exact .non
 |bl b=>exact .bl b
 |int i=>exact .int i
 |str x=>exact .str x
 |tup h r=>exact .tup h r
 |dct h r=>exact .dct h r
 |exc h r=>exact .exc h r
theorem SlOk.val{o:Option V}{A1:List Addr}(h:SlOk K F H σ o s A1)(hF:Same F H)(e:s.val=some d):∃v,o=some v∧Rp K H v d∧(Cp s=false→RpF K F H v d):=by
 cases s with
 |no=>cases e
 |sh d'=>
  obtain⟨rfl,v,rfl,r⟩:=h
  cases e
  exact⟨v,rfl,r.same hF,fun _=>RpF.of r hF⟩
 |ow ds=>
  obtain⟨l,vs,rfl,rfl,hl,r⟩:=h
  cases e
  exact⟨_,rfl,.lst (SqL.of hl) (r.same hF),fun _=>⟨_,_,rfl,SqL.of hl,r⟩⟩
 |od kvs=>cases e
 |tx ps=>
  obtain⟨t,vs,rfl,ht,r⟩:=h
  cases e
  exact⟨_,rfl,.tup (SqT.of (hF _ _ ht)) (r.rp hF),fun z=>by cases z⟩
 |al i=>cases e
 |br d'=>
  obtain⟨rfl,v,rfl,r⟩:=h
  cases e
  exact⟨v,rfl,r,fun z=>by cases z⟩
theorem FrF.slen(h:FrF K B F A σ H E xs Xs):σ.length=E.length:=by
 have e:=h.sl.len
 have:=h.len
 simp only[qY,fw]at e
 omega
theorem FrF.var{i:Nat}(h:FrF K B F A σ H E xs Xs)(e:E[i]? =some s):∃o A1,σ[i]? =some o∧SlOk K F H σ o s A1:=by
 obtain⟨o,A0,A1,A2,eA,eo,hp,_⟩:=h.sl.at (k:=Xs.length+i) (s:=s) (by rw[BT (by omega)];simpa using e)
 rw[BT (by rw[fw,h.len];omega),fw,h.len,BU]at eo
 exact⟨o,A1,eo,hp⟩
theorem FrF.ext(h:FrF K B F A σ H E xs Xs)(e:Xs[k]? =some s):∃v A1,xs[k]? =some v∧SlOk K F H σ (some v) s A1:=by
 have hk:k < Xs.length:=(Zar.mp e).1
 obtain⟨o,A0,A1,A2,eA,eo,hp,_⟩:=h.sl.at (k:=k) (s:=s) (by rw[List.getElem?_append_left hk];exact e)
 rw[List.getElem?_append_left (by rw[fw,h.len];omega),wT]at eo
 cases q:xs[k]? with
 |none=>rw[q]at eo;cases eo
 |some v=>rw[q]at eo;cases eo;exact⟨v,A1,rfl,hp⟩
theorem FrF.look(h:FrF K B F A σ H E xs Xs)(e:Xs[k]? =some s)(q:look E s=some d):∃v,xs[k]? =some v∧Rp K H v d∧(pw E s=false→RpF K F H v d):=by
 obtain⟨v,A1,ev,hs⟩:=h.ext e
 cases s with
 |al i=>
  obtain⟨rfl,w,ew,hw⟩:=hs
  cases ew
  cases ei:E[i]? with
  |none=>simp[PL.look,ei]at q
  |some t=>
   obtain⟨o,A2,eo,ht⟩:=h.var ei
   rw[hw]at eo
   cases eo
   obtain⟨v',e',r,c⟩:=ht.val h.fh (d:=d) (by simpa[PL.look,ei]using q)
   cases e'
   exact⟨v,ev,r,fun z=>c (by simpa[pw,ei]using z)⟩
 |no=>cases q
 |od kvs=>cases q
 |sh d'=>obtain⟨v',e',r,c⟩:=hs.val h.fh q;cases e';exact⟨v,ev,r,c⟩
 |ow ds=>obtain⟨v',e',r,c⟩:=hs.val h.fh q;cases e';exact⟨v,ev,r,c⟩
 |tx ps=>obtain⟨v',e',r,c⟩:=hs.val h.fh q;cases e';exact⟨v,ev,r,c⟩
 |br d'=>obtain⟨v',e',r,c⟩:=hs.val h.fh q;cases e';exact⟨v,ev,r,c⟩
theorem FrF.look0(h:FrF K B F A σ H E (v::xs) (s::Xs))(q:PL.look E s=some d):Rp K H v d∧(pw E s=false→RpF K F H v d):=by
 obtain⟨v',e,r⟩:=h.look (k:=0) rfl q
 cases e
 exact r
theorem FrF.look1{w:V}{t:Sl}(h:FrF K B F A σ H E (w::v::xs) (t::s::Xs))(q:PL.look E s=some d):Rp K H v d∧(pw E s=false→RpF K F H v d):=by
 obtain⟨v',e,r⟩:=h.look (k:=1) rfl q
 cases e
 exact r
theorem FrF.mutA(h:FrF K B F A σ H E xs Xs):∀a∈A,(∃us,H a=some (.lst us))∨∃us,H a=some (.dK us):=
 SAll.all (R:=fun a=>(∃us,H a=some (.lst us))∨∃us,H a=some (.dK us)) (fun _ _ _ q=>q.mut) h.sl
theorem FrF.newA{p:Addr}(h:FrF K B F A σ H E xs Xs)(hp:H p=none):p∉A:=fun hm=>by
 rcases h.mutA p hm with⟨_,z⟩ |⟨_,z⟩ <;> rw[hp]at z <;> cases z
theorem FrF.cold{u:V}{e:PyData}(h:FrF K B F A σ H E xs Xs)(r:Rp K H u e)(f:dP e=true):Rp K F u e:=(r.cold f).same h.tf
theorem FrF.coldA{us:List V}{es:List PyData}(h:FrF K B F A σ H E xs Xs)(r:RpA K H us es)(f:bR es=true):RpA K F us es:=(r.cold f).same h.tf
theorem FrF.push(h:FrF K B F A σ H E xs Xs)(q:SlOk K F H σ (some v) s []):FrF K B F A σ H E (v::xs) (s::Xs):=
 ⟨h.bf,h.fh,h.tf,.cons (A:=[]) q h.sl,h.nd,h.fr,by simp[h.len],h.pl⟩
theorem FrF.pop(h:FrF K B F A σ H E (v::xs) (s::Xs)):∃A',FrF K B F A' σ H E xs Xs:=by
 obtain⟨bf,fh,tf,sl,nd,fr,len,pl⟩:=h
 generalize hT:List.map some (v::xs)++σ=T at sl
 generalize hS:(s::Xs)++E=S at sl
 cases sl with
 |nil=>cases hS
 |cons q r=>
  injection hT with _ hT
  injection hS with _ hS
  subst hT hS
  exact⟨_,bf,fh,tf,r,(List.nodup_append.mp nd).2.1,fun a ha=>fr a (kf _ ha),by simpa using len,pl⟩
theorem FrF.grow(h:FrF K B F A σ H E xs Xs)(g:Same H H'):FrF K B (fun b=>if b∈A then none else H' b) A σ H' E xs Xs:=by
 have nF:∀b o,F b=some o→b∉A:=fun b o e hb=>by rw[h.fr b hb]at e;cases e
 have FF:Same F (fun b=>if b∈A then none else H' b):=fun b o e=>by
  show(if b∈A then none else H' b)=some o
  rw[if_neg (nF b o e)]
  exact g _ _ (h.fh _ _ e)
 have hA:∀b∈A,H' b=H b:=fun b hb=>by
  rcases h.mutA b hb with⟨_,z⟩ |⟨_,z⟩ <;> rw[z,g _ _ z]
 refine⟨h.bf.trans FF,fun b o e=>?_,fun b o e=>?_,h.sl.mono fun o s C _ hC q=>q.stay FF (fun b hb=>hA b (hC b hb)) fun _=>g,h.nd,fun a ha=>if_pos ha,h.len,h.pl⟩
 ·by_cases hb:b∈A
  ·rw[if_pos hb]at e;cases e
  ·rw[if_neg hb]at e;exact e
 ·obtain⟨e1,e2⟩:=Option.filter_eq_some_iff.mp e
  show(if b∈A then none else H' b)=some o
  by_cases hb:b∈A
  ·rw[hA b hb]at e1
   rcases h.mutA b hb with⟨_,z⟩ |⟨_,z⟩ <;> rw[z]at e1 <;> cases e1 <;> cases e2
  ·rw[if_neg hb];exact e1
theorem FrF.newl{p:Addr}(h:FrF K B F A σ H E xs Xs)(r:RpA K F vs ds)(hp:H p=none):FrF K B F (p::A) σ (upd H p (.lst vs)) E (.ref p::xs) (.ow ds::Xs):=by
 have g:Same H (upd H p (.lst vs)):=fz hp _
 have nA:=h.newA hp
 refine⟨h.bf,h.fh.trans g,fun b o e=>?_,.cons (A:=[p]) ⟨p,vs,rfl,rfl,upd_same,r⟩ (h.sl.mono fun o s C _ hC q=>q.stay (Same.refl _) (fun b hb=>aF fun z=>nA (z▸hC b hb)) fun _=>g),List.nodup_cons.mpr ⟨nA,h.nd⟩,fun a ha=>?_,by simp[h.len],h.pl⟩
 ·obtain⟨e1,e2⟩:=Option.filter_eq_some_iff.mp e
  by_cases hb:b=p
  ·subst hb;rw[upd_same]at e1;cases e1;cases e2
  ·rw[aF hb]at e1;exact h.tf b o (kW e1 e2)
 ·rcases Zai.mp ha with z |z
  ·subst z;exact h.fh.free hp
  ·exact h.fr a z
theorem FrF.newt{p:Addr}(h:FrF K B F A σ H E xs Xs)(r:RpA K F vs ds)(hp:H p=none):FrF K B (upd F p (.tup vs)) A σ (upd H p (.tup vs)) E (.ref p::xs) (.sh (.tuple ds)::Xs):=by
 have g:Same H (upd H p (.tup vs)):=fz hp _
 have nA:=h.newA hp
 have gF:Same F (upd F p (.tup vs)):=fz (h.fh.free hp) _
 refine⟨h.bf.trans gF,fun b o e=>?_,fun b o e=>?_,.cons (A:=[]) ⟨rfl,_,rfl,.tup (.inl (.inl upd_same)) (r.same gF)⟩ (h.sl.mono fun o s C _ hC q=>q.stay gF (fun b hb=>aF fun z=>nA (z▸hC b hb)) fun _=>g),h.nd,fun a ha=>?_,by simp[h.len],h.pl⟩
 ·by_cases hb:b=p
  ·subst hb;rw[upd_same]at e ⊢;exact e
  ·rw[aF hb]at e ⊢;exact h.fh _ _ e
 ·obtain⟨e1,e2⟩:=Option.filter_eq_some_iff.mp e
  by_cases hb:b=p
  ·subst hb;rw[upd_same]at e1 ⊢;exact e1
  ·rw[aF hb]at e1 ⊢;exact h.tf b o (kW e1 e2)
 ·have ne:a≠p:=fun z=>nA (z▸ha)
  rw[aF ne];exact h.fr a ha
theorem FrF.mut{i:Nat}(h:FrF K B F A σ H E xs Xs)(e:E[i]? =some (.ow ds))(c:∀s∈Xs,s.isBr=false):
  ∃l vs,σ[i]? =some (some (.ref l))∧H l=some (.lst vs)∧RpA K F vs ds∧∀vs' ds',RpA K F vs' ds'→FrF K B F A σ (upd H l (.lst vs')) (E.set i (.ow ds')) xs Xs:=by
 obtain⟨o,A0,A1,A2,eA,eo,hp,put⟩:=h.sl.at (k:=Xs.length+i) (s:=.ow ds) (by rw[BT (by omega)];simpa using e)
 rw[BT (by rw[fw,h.len];omega),fw,h.len,BU]at eo
 obtain⟨l,vs,rfl,rfl,hl,r⟩:=hp
 refine⟨l,vs,eo,hl,r,fun vs' ds' r'=>?_⟩
 have hlA:l∈A:=by rw[eA];simp
 have nl:∀b,b∈A0∨b∈A2→b≠l:=fun b hb z=>by
  subst z
  have nd:=h.nd
  rw[eA]at nd
  rcases hb with hb |hb
  ·exact(List.nodup_append.mp nd).2.2 b hb b (by simp) rfl
  ·exact(List.nodup_append.mp (List.nodup_append.mp nd).2.1).2.2 b (by simp) b hb rfl
 have lF:F l=none:=h.fr l hlA
 have z:=put (SlOk K F (upd H l (.lst vs')) σ) (some (.ref l)) (.ow ds') [l] ⟨l,vs',rfl,rfl,upd_same,r'⟩ fun o s C hs hC q=>q.stay (Same.refl _) (fun b hb=>aF (nl b (hC b hb))) fun z=>by
  rcases Zaf.mp hs with hs |hs
  ·rw[c s hs]at z;cases z
  ·have:=h.pl s hs
   cases s <;> simp[Sl.isAl,Sl.isBr]at this z
 have e3:(Xs++E).set (Xs.length+i) (.ow ds')=Xs++E.set i (.ow ds'):=by
  rw[List.set_append_right _ _ (by omega),BU]
 have e2:(List.map some xs++σ).set (Xs.length+i) (some (V.ref l))=List.map some xs++σ:=by
  rw[←h.len,List.set_append_right _ _ (by rw[fw];omega),fw,BU]
  congr 1
  exact List.ext_getElem? fun j=>by
   by_cases hj:i=j
   ·subst hj
    rw[List.getElem?_set_self',eo];rfl
   ·rw[List.getElem?_set_ne hj]
 rw[e2,e3,←eA]at z
 refine⟨h.bf,fun b o q=>?_,?_,z,h.nd,h.fr,h.len,fun s hs=>?_⟩
 ·rw[aF (fun z=>by rw[z,lF]at q;cases q)]
  exact h.fh _ _ q
 ·rw[nE hl];exact h.tf
 ·rcases List.mem_or_eq_of_mem_set hs with hs |hs
  ·exact h.pl s hs
  ·subst hs;rfl
theorem FrF.frzAt(h:FrF K B F A σ H E xs Xs)(e:(Xs++E)[k]? =some s)(q:s.val=some d)(c:s.isAl=false):
  ∃F' A' v,(xs.map some++σ)[k]? =some (some v)∧Rp K F' v d∧Same B F'∧Same F' H∧Same (tups H) F'∧SAll (SlOk K F' H σ) (xs.map some++σ) ((Xs++E).set k (.sh d)) A'∧A'.Nodup∧∀a∈A',F' a=none:=by
 obtain⟨o,A0,A1,A2,eA,eo,hp,put⟩:=h.sl.at e
 have nd:=h.nd
 rw[eA]at nd
 have nA1:∀b o,F b=some o→b∉A1:=fun b o e hb=>by
  have:=h.fr b (by rw[eA];simp[hb])
  rw[this]at e;cases e
 have FF:Same F (rD F H A1):=fun b o e=>by rw[nG (nA1 b o e)];exact e
 obtain⟨v,rfl,r⟩:∃v,o=some v∧Rp K (rD F H A1) v d:=by
  cases s with
  |no=>cases q
  |od kvs=>cases q
  |al i=>cases c
  |br d'=>cases c
  |sh d'=>
   obtain⟨rfl,v,rfl,r⟩:=hp
   cases q
   exact⟨v,rfl,r.same FF⟩
  |ow ds=>
   obtain⟨l,vs,rfl,rfl,hl,r⟩:=hp
   cases q
   exact⟨_,rfl,.lst (SqL.of ((qk (by simp)).trans hl)) (r.same FF)⟩
  |tx ps=>
   obtain⟨t,vs,rfl,ht,r⟩:=hp
   cases q
   refine⟨_,rfl,.tup (SqT.of (FF _ _ ht)) ?_⟩
   have r':PtsOk K (rD F H A1) (rD F H A1) vs ps A1:=r.stay FF fun b hb=>qk hb
   exact r'.rp (Same.refl _)
 have e2:(List.map some xs++σ).set k (some v)=List.map some xs++σ:=List.ext_getElem? fun j=>by
  by_cases hj:k=j
  ·subst hj
   rw[List.getElem?_set_self',eo];rfl
  ·rw[List.getElem?_set_ne hj]
 have z:=put (SlOk K (rD F H A1) H σ) (some v) (.sh d) [] ⟨rfl,v,rfl,r⟩ fun o s C _ hC q=>q.stay FF (fun b _=>rfl) fun _=>Same.refl _
 rw[e2]at z
 refine⟨rD F H A1,A0++A2,v,eo,r,h.bf.trans FF,fun b o e=>?_,fun b o e=>FF _ _ (h.tf _ _ e),by simpa using z,?_,fun a ha=>?_⟩
 ·by_cases hb:b∈A1
  ·rw[qk hb]at e;exact e
  ·rw[nG hb]at e;exact h.fh _ _ e
 ·exact List.Nodup.sublist (List.Sublist.append (List.Sublist.refl _) (List.sublist_append_right _ _)) nd
 ·have hn:a∉A1:=fun hm=>by
   rcases Zaf.mp ha with z |z
   ·exact(List.nodup_append.mp nd).2.2 a z a (by simp[hm]) rfl
   ·exact(List.nodup_append.mp (List.nodup_append.mp nd).2.1).2.2 a hm a z rfl
  rw[nG hn]
  exact h.fr a (by rw[eA];rcases Zaf.mp ha with z |z <;> simp[z])
end
def frz(E:List Sl):Sl→Option (PyData×List Sl)
 |.sh d=>some (d,E)
 |.ow ds=>some (.list ds,E)
 |.tx ps=>some (.tuple (ps.map Pt.val),E)
 |.br d=>if dP d then some (d,E)else none
 |.al i=>match E[i]? with
  |some (.sh d)=>some (d,E)
  |some (.ow ds)=>some (.list ds,E.set i (.sh (.list ds)))
  |some (.tx ps)=>some (.tuple (ps.map Pt.val),E.set i (.sh (.tuple (ps.map Pt.val))))
  |_=>none
 |_=>none
section
variable {K:Frag} {B F:Hp} {A:List Addr} {σ:Sg} {H:Hp} {E E':List Sl} {xs:List V} {Xs:List Sl} {v:V} {s:Sl} {d:PyData}
theorem FrF.frzVar{i:Nat}(h:FrF K B F A σ H E xs Xs)(e:E[i]? =some s)(q:s.val=some d):∃F' A' v,σ[i]? =some (some v)∧Rp K F' v d∧FrF K B F' A' σ H (E.set i (.sh d)) xs Xs:=by
 obtain⟨F',A',v,ev,r,b1,b2,b3,sl,nd,fr⟩:=h.frzAt (k:=Xs.length+i) (by rw[BT (by omega)];simpa using e) q (h.pl s (List.mem_of_getElem? e))
 rw[BT (by rw[fw,h.len];omega),fw,h.len,BU]at ev
 have e3:(Xs++E).set (Xs.length+i) (.sh d)=Xs++E.set i (.sh d):=by
  rw[List.set_append_right _ _ (by omega),BU]
 rw[e3]at sl
 refine⟨F',A',v,ev,r,b1,b2,b3,sl,nd,fr,h.len,fun s hs=>?_⟩
 rcases List.mem_or_eq_of_mem_set hs with hs |hs
 ·exact h.pl s hs
 ·subst hs;rfl
theorem FrF.frz0(h:FrF K B F A σ H E (v::xs) (s::Xs))(q:PL.frz E s=some (d,E')):∃F' A',FrF K B F' A' σ H E' (v::xs) (.sh d::Xs):=by
 have key:s.val=some d→s.isAl=false→E=E'→∃F' A',FrF K B F' A' σ H E' (v::xs) (.sh d::Xs):=fun q' c e=>by
  subst e
  obtain⟨F',A',v',ev,r,b1,b2,b3,sl,nd,fr⟩:=h.frzAt (k:=0) rfl q' c
  exact⟨F',A',b1,b2,b3,sl,nd,fr,by simpa using h.len,h.pl⟩
 have al:∀i t,s=.al i→E[i]? =some t→t.val=some d→E'=E.set i (.sh d)→∃F' A',FrF K B F' A' σ H E' (v::xs) (.sh d::Xs):=fun i t es ei qt eE=>by
  subst es eE
  obtain⟨v',A1,ev,hs⟩:=h.ext (k:=0) rfl
  cases ev
  obtain⟨rfl,w,ew,hw⟩:=hs
  cases ew
  obtain⟨F',A',w,ew,r,h'⟩:=h.frzVar ei qt
  rw[hw]at ew
  cases ew
  obtain⟨A2,h2⟩:=h'.pop
  exact⟨F',A2,h2.push ⟨rfl,_,rfl,r⟩⟩
 cases s with
 |no=>cases q
 |od kvs=>cases q
 |sh d'=>cases q;exact key rfl rfl rfl
 |ow ds=>cases q;exact key rfl rfl rfl
 |tx ps=>cases q;exact key rfl rfl rfl
 |br d'=>
  simp only[PL.frz]at q
  split at q
  ·rename_i hf
   cases q
   obtain⟨r,_⟩:=h.look0 (d:=d) rfl
   obtain⟨A2,h2⟩:=h.pop
   exact⟨F,A2,h2.push ⟨rfl,_,rfl,h.cold r hf⟩⟩
  ·cases q
 |al i=>
  simp only[PL.frz]at q
  split at q
  ·rename_i d' ei
   cases q
   refine al i _ rfl ei rfl ?_
   exact List.ext_getElem? fun j=>by
    by_cases hj:i=j
    ·subst hj;rw[List.getElem?_set_self',ei];rfl
    ·rw[List.getElem?_set_ne hj]
  ·rename_i ds ei
   cases q
   exact al i _ rfl ei rfl rfl
  ·rename_i ps ei
   cases q
   exact al i _ rfl ei rfl rfl
  ·cases q
theorem FrF.store{i:Nat}(h:FrF K B F A σ H E (v::xs) (s::Xs))(c:s.isAl=false)(cx:∀s∈Xs,s.isAl=false)(hi:i < E.length):∃A',FrF K B F A' (σ.set i (some v)) H (E.set i s) xs Xs:=by
 have hlen:=h.len
 have hsl:=h.slen
 obtain⟨bf,fh,tf,sl,nd,fr,len,pl⟩:=h
 generalize hT:List.map some (v::xs)++σ=T at sl
 generalize hS:(s::Xs)++E=S at sl
 cases sl with
 |nil=>cases hS
 |cons q r=>
  rename_i A1 _ _ A2
  injection hT with h1 hT
  injection hS with h2 hS
  subst h1 h2 hT hS
  have len':xs.length=Xs.length:=by simpa using len
  have r:SAll (SlOk K F H σ) (List.map some xs++σ) (Xs++E) A2:=r
  obtain⟨t,et⟩:∃t,E[i]? =some t:=⟨E[i],oU hi⟩
  obtain⟨o,C0,C1,C2,eA,eo,hp,put⟩:=r.at (k:=Xs.length+i) (s:=t) (by rw[BT (by omega)];simpa using et)
  have all:∀s'∈Xs++E,s'.isAl=false:=fun s' hs=>(Zaf.mp hs).elim (cx s') (pl s')
  have chg:∀(o:Option V) (s':Sl) (C:List Addr),s'.isAl=false→SlOk K F H σ o s' C→SlOk K F H (σ.set i (some v)) o s' C:=fun o s' C hc z=>by
   cases s' <;> first |exact z |cases hc
  have z:=put (SlOk K F H (σ.set i (some v))) (some v) s A1 (chg _ _ _ c q) fun o s' C hs _ z=>chg o s' C (all s' hs) z
  have e3:(Xs++E).set (Xs.length+i) s=Xs++E.set i s:=by
   rw[List.set_append_right _ _ (by omega),BU]
  have e2:(List.map some xs++σ).set (Xs.length+i) (some v)=List.map some xs++σ.set i (some v):=by
   rw[←len',List.set_append_right _ _ (by rw[fw];omega),fw,BU]
  rw[e2,e3]at z
  refine⟨_,bf,fh,tf,z,?_,fun a ha=>fr a ?_,len',fun s' hs=>?_⟩
  ·rw[eA]at nd
   have p:(C0++(A1++C2)).Perm (A1++(C0++C2)):=by
    rw[←List.append_assoc,←List.append_assoc]
    exact List.Perm.append_right _ List.perm_append_comm
   refine p.nodup_iff.mpr (List.Nodup.sublist ?_ nd)
   exact List.Sublist.append (List.Sublist.refl _) (List.Sublist.append (List.Sublist.refl _) (List.sublist_append_right _ _))
  ·rw[eA]
   simp only[Zaf]at ha ⊢
   rcases ha with z |z |z
   ·exact .inr (.inl z)
   ·exact .inl z
   ·exact .inr (.inr (.inr z))
  ·rcases List.mem_or_eq_of_mem_set hs with hs |hs
   ·exact pl s' hs
   ·subst hs;exact c
end
end PL
namespace PL
open PySem L2 Nh
abbrev bj:=List Sl→Option (Sl×List Sl)
abbrev iT:=List Sl→Option (Bool×List Sl)
abbrev lM:=List Sl→Option (List Sl×List Sl)
abbrev jP:=List Sl→Option (List PyData×List Sl)
inductive Fl where
 |nx |bk |ct |rt (r:Sl)
abbrev cZ:=List Sl→Option (List Sl×Fl)
abbrev Calm(Xs:List Sl):Prop:=∀s∈Xs,s.isBr=false
abbrev Still(Xs:List Sl):Prop:=∀s∈Xs,s.isAl=false
theorem Still.calm(h:Still Xs):Calm Xs:=fun s hs=>by
 have:=h s hs
 cases s <;> simp[Sl.isAl,Sl.isBr]at this ⊢
theorem Still.nil(h:Xs=[]):Still Xs:=fun s hs=>by subst h;cases hs
theorem Calm.nil(h:Xs=[]):Calm Xs:=(Still.nil h).calm
theorem Calm.cons{s:Sl}(h:Calm Xs)(hs:s.isBr=false):Calm (s::Xs):=fun t ht=>(Zai.mp ht).elim (fun e=>e▸hs) (h t)
def rd(K:Frag)(m:Bool)(f:bj):TE:=fun σ H Q=>∃B E xs Xs r E',Frm K B σ H E xs Xs∧(m=true→Calm Xs)∧f E=some (r,E')∧∀v H',Frm K B σ H' E' (v::xs) (r::Xs)→Q v H'
def rt(K:Frag)(m:Bool)(f:iT):TT:=fun σ H Q=>∃B E xs Xs b E',Frm K B σ H E xs Xs∧(m=true→Calm Xs)∧f E=some (b,E')∧∀H',Frm K B σ H' E' xs Xs→Q b H'
def ra(K:Frag)(m:Bool)(f:lM):TA:=fun σ H Q=>∃B E xs Xs rs E',Frm K B σ H E xs Xs∧(m=true→Calm Xs)∧f E=some (rs,E')∧∀vs H',vs.length=rs.length→Frm K B σ H' E' (vs.reverse++xs) (rs.reverse++Xs)→Q vs H'
def H_(K:Frag)(m:Bool)(f:jP):TA:=fun σ H Q=>∃B E xs Xs ds E',Frm K B σ H E xs Xs∧(m=true→Calm Xs)∧f E=some (ds,E')∧∀vs H',vs.length=ds.length→Frm K B σ H' E' (vs.reverse++xs) (ds.reverse.map .sh++Xs)→Q vs H'
def rs(K:Frag)(g:cZ):TS:=fun D σ H=>∃B E xs Xs E' fl,Frm K B σ H E xs Xs∧Xs=[]∧g E=some (E',fl)∧match fl with
 |.nx=>∀σ' H',Frm K B σ' H' E' xs Xs→D.nx σ' H'
 |.bk=>∀σ' H',Frm K B σ' H' E' xs Xs→D.bk σ' H'
 |.ct=>∀σ' H',Frm K B σ' H' E' xs Xs→D.ct σ' H'
 |.rt r=>∀σ' v H',Frm K B σ' H' E' (v::xs) (r::Xs)→D.rt v H'
def EX(X:Cx)(e:Expr)(m:Bool)(f:bj):Prop:=PE X e (rd X.K m f)
def TX(X:Cx)(e:Expr)(m:Bool)(f:iT):Prop:=PT X e (rt X.K m f)
def WX(X:Cx)(e:Expr)(m:Bool)(f:iT):Prop:=PW X e (rt X.K m f)
def AX(X:Cx)(es:List Expr)(m:Bool)(f:lM):Prop:=PA X es (ra X.K m f)
def DX(X:Cx)(es:List Expr)(m:Bool)(f:jP):Prop:=PA X es (H_ X.K m f)
def SX(X:Cx)(s:Stmt)(g:cZ):Prop:=PS X s (rs X.K g)
def q_(X:Cx)(s:List Stmt)(g:cZ):Prop:=PSs X s (rs X.K g)
section
variable {X:Cx}
theorem bv{t t':TE}(h:PE X e t)(k:∀σ H Q,t' σ H Q→t σ H Q):PE X e t':=fun pins s σ H Q I q=>h pins s σ H Q I (k σ H Q q)
theorem ql{t t':TT}(h:PT X e t)(k:∀σ H Q,t' σ H Q→t σ H Q):PT X e t':=fun pins s σ H Q I q=>h pins s σ H Q I (k σ H Q q)
theorem E7{t t':TT}(h:PW X e t)(k:∀σ H Q,t' σ H Q→t σ H Q):PW X e t':=fun whole pins s σ H Q I q=>h whole pins s σ H Q I (k σ H Q q)
theorem nH{es:List Expr}{t t':TA}(h:PA X es t)(k:∀σ H Q,t' σ H Q→t σ H Q):PA X es t':=fun pos pins s σ H Q I q=>h pos pins s σ H Q I (k σ H Q q)
theorem km{t t':TS}(h:PS X st t)(k:∀D σ H,t' D σ H→t D σ H):PS X st t':=fun pins s σ H D I q=>h pins s σ H D I (k D σ H q)
theorem vZ{st:List Stmt}{t t':TS}(h:PSs X st t)(k:∀D σ H,t' D σ H→t D σ H):PSs X st t':=fun pins s σ H D I q=>h pins s σ H D I (k D σ H q)
end
def DT:PyData→Option V
 |.none=>some .non
 |.bool b=>some (.bl b)
 |.int i=>some (.int i)
 |.str x=>some (.str x)
 |_=>none
theorem nI{K:Frag}(h:DT d=some v):Rp K H v d:=by
 cases d <;> simp[DT]at h <;> subst h <;> constructor
def ae(i:Nat):bj:=fun E=>match E[i]? with
 |some (.sh d)=>some (.sh d,E)
 |some (.ow _)=>some (.al i,E)
 |some (.od _)=>some (.al i,E)
 |some (.tx _)=>some (.al i,E)
 |_=>none
def pC(d:PyData):bj:=fun E=>some (.sh d,E)
section
variable {X:Cx} {K:Frag}
theorem aa(i:Nat)   (hN:X.N[i]? =some x:=by rfl) (hv:Eo X.env.scope x:=by first |exact Or.inl rfl |exact Or.inr (Or.inl rfl) |exact Or.inr (Or.inr rfl)) (hd:(x == ("__debug__":Str))=false:=by decide)
  (hcd:(x == ("__classdict__":Str))=false:=by decide):EX X (.Name x pos) false (ae i):=by
 refine bv (p9 hN hv hd hcd) fun σ H Q h=>?_
 obtain⟨B,E,xs,Xs,r,E',⟨F,A,fr⟩,_,e,q⟩:=h
 unfold ae at e
 split at e
 ·rename_i d ei
  cases e
  obtain⟨o,A1,eo,rfl,v,rfl,rp⟩:=fr.var ei
  exact⟨v,eo,q v H ⟨F,A,fr.push ⟨rfl,v,rfl,rp⟩⟩⟩
 ·rename_i ds ei
  cases e
  obtain⟨o,A1,eo,l,vs,rfl,_⟩:=fr.var ei
  exact⟨_,eo,q _ H ⟨F,A,fr.push ⟨rfl,_,rfl,eo⟩⟩⟩
 ·rename_i ds ei
  cases e
  obtain⟨o,A1,eo,l,vs,A2,rfl,_⟩:=fr.var ei
  exact⟨_,eo,q _ H ⟨F,A,fr.push ⟨rfl,_,rfl,eo⟩⟩⟩
 ·rename_i ds ei
  cases e
  obtain⟨o,A1,eo,l,vs,rfl,_⟩:=fr.var ei
  exact⟨_,eo,q _ H ⟨F,A,fr.push ⟨rfl,_,rfl,eo⟩⟩⟩
 ·cases e
theorem Cq(d:PyData)(h:PE X e (tC v))(hd:DT d=some v:=by rfl):EX X e false (pC d):=by
 refine bv h fun σ H Q h=>?_
 obtain⟨B,E,xs,Xs,r,E',⟨F,A,fr⟩,_,e,q⟩:=h
 cases e
 exact q v H ⟨F,A,fr.push ⟨rfl,v,rfl,nI hd⟩⟩
theorem au{i j pos}:EX X (.Constant (.int i) j pos) false (pC (.int i)):=Cq _ Er
theorem eK{b j pos}:EX X (.Constant (.bool b) j pos) false (pC (.bool b)):=Cq _ Gx
theorem tS{j pos}:EX X (.Constant .none j pos) false (pC .none):=Cq _ Es
theorem bg{x j pos}:EX X (.Constant (.str x) j pos) false (pC (.str x)):=Cq _ p_
end
abbrev P2:=List Sl→Sl→Sl→Option (Sl×List Sl)
def iU(K:Frag)(r:R2)(p:P2):Prop:=∀{B F:Hp} {A:List Addr} {σ:Sg} {H:Hp} {E:List Sl} {xs:List V} {Xs:List Sl} {v1 v2:V} {s1 s2 res:Sl} {E':List Sl} {Q:VK},
 FrF K B F A σ H E (v2::v1::xs) (s2::s1::Xs)→p E s1 s2=some (res,E')→(∀v H',Frm K B σ H' E' (v::xs) (res::Xs)→Q v H')→r v1 v2 H Q
def ao(p:P2)(m2:Bool)(f g:bj):bj:=fun E=>(f E).bind fun a=>if m2&&a.1.isBr then none else (g a.2).bind fun b=>p b.2 a.1 b.1
theorem lQ{K:Frag}{p:P2}(hp:iU K r p){m2:Bool}{f g:bj}{σ:Sg}{Q:VK}(h:rd K (m1||m2) (ao p m2 f g) σ H Q):EC r (rd K m1 f) (rd K m2 g) σ H Q:=by
 obtain⟨B,E,xs,Xs,res,E',fr,c,e,q⟩:=h
 obtain⟨⟨s1,E1⟩,e1,e⟩:=Za.mp e
 by_cases hb:(m2&&s1.isBr)=true
 ·rw[if_pos hb]at e;cases e
 rw[if_neg hb]at e
 obtain⟨⟨s2,E2⟩,e2,e⟩:=Za.mp e
 refine⟨B,E,xs,Xs,s1,E1,fr,fun z=>c (by simp[z]),e1,fun v1 H1 fr1=>?_⟩
 refine⟨B,E1,v1::xs,s1::Xs,s2,E2,fr1,fun z=>?_,e2,fun v2 H2 fr2=>?_⟩
 ·refine Calm.cons (c (by simp[z])) ?_
  cases hs:s1.isBr with
  |false=>rfl
  |true=>exact absurd (by simp[z,hs]) hb
 ·obtain⟨F,A,fr2⟩:=fr2
  exact hp fr2 e q
def kR(op:PyData→PyData→Option PyData):P2:=fun E s1 s2=>(look E s1).bind fun d1=>(look E s2).bind fun d2=>(op d1 d2).map fun d=>(.sh d,E)
theorem FrF.res2{K:Frag}{B:Hp}{A:List Addr}{σ:Sg}{s:Sl}(h:FrF K B F A σ H E (v2::v1::xs) (s2::s1::Xs))(q:SlOk K F H σ (some v) s []):Frm K B σ H E (v::xs) (s::Xs):=by
 obtain⟨A1,h⟩:=h.pop
 obtain⟨A2,h⟩:=h.pop
 exact⟨F,A2,h.push q⟩
theorem nJ{K:Frag}{op:PyData→PyData→Option PyData}(h:∀(d1 d2 d:PyData) (v1 v2:V) (H:Hp) (Q:VK),op d1 d2=some d→Rp K H v1 d1→Rp K H v2 d2→∃v,DT d=some v∧(Q v H→r v1 v2 H Q)):iU K r (kR op):=by
 intro B F A σ H E xs Xs v1 v2 s1 s2 res E' Q fr e q
 obtain⟨d1,e1,e⟩:=Za.mp e
 obtain⟨d2,e2,e⟩:=Za.mp e
 obtain⟨d,e3,e⟩:=Zab.mp e
 cases e
 obtain⟨v,hv,k⟩:=h d1 d2 d v1 v2 H Q e3 (fr.look1 e1).1 (fr.look0 e2).1
 exact k (q v H (fr.res2 ⟨rfl,v,rfl,nI hv⟩))
section
variable {X:Cx} {a b:Expr} {m1 m2:Bool} {f g:bj} {pos:Pos}
theorem nK{op:Operator}{p:P2}(ho:OpR X (binaryOp op) r)(hp:iU X.K r p)(ha:EX X a m1 f)(hb:EX X b m2 g):EX X (.BinOp a op b pos) (m1||m2) (ao p m2 f g):=bv (GG ho ha hb) fun _ _ _ h=>lQ hp h
theorem E8{op:CmpOp}{p:P2}(ho:OpR X (compareOp op) r)(hp:iU X.K r p)(ha:EX X a m1 f)(hb:EX X b m2 g)(hm:behindInMarks op b=false):EX X (.Compare a [op] [b] pos) (m1||m2) (ao p m2 f g):=bv (Ca ho ha hb hm) fun _ _ _ h=>lQ hp h
def iN(f:bj):iT:=fun E=>(f E).bind fun a=>match a.1 with
 |.sh (.bool b)=>some (b,a.2)
 |_=>none
theorem z_{K:Frag}{f:bj}{σ:Sg}{Q:Bool→Hp→Prop}(h:rt K m (iN f) σ H Q):rd K m f σ H (fun x H'=>∃k,x=.bl k∧Q k H'):=by
 obtain⟨B,E,xs,Xs,b,E',fr,c,e,q⟩:=h
 obtain⟨⟨s,E1⟩,e1,e⟩:=Za.mp e
 refine⟨B,E,xs,Xs,s,E1,fr,c,e1,fun v H' ⟨F,A,fr'⟩=>?_⟩
 simp only at e
 split at e
 ·cases e
  obtain⟨r,_⟩:=fr'.look0 (d:=.bool b) rfl
  cases r
  obtain⟨A',fr2⟩:=fr'.pop
  exact⟨b,rfl,q H' ⟨F,A',fr2⟩⟩
 ·cases e
theorem qm{op:CmpOp}{p:P2}(ho:OpR X (compareOp op) r)(hp:iU X.K r p)(ha:EX X a m1 f)(hb:EX X b m2 g)(hm:behindInMarks op b=false):TX X (.Compare a [op] [b] pos) (m1||m2) (iN (ao p m2 f g)):=by
 refine ql (Cb ho ha hb hm) fun σ H Q h=>?_
 exact lQ hp (z_ h)
end
def E9:Int:=2 ^ 20000
def kX(i j:Int):Bool:=decide (-(2 ^ 64) < i∧i < 2 ^ 64)||decide (-(2 ^ 64) < j∧j < 2 ^ 64)||decide (-E9 < i∧i < E9∧ -E9 < j∧j < E9)
def eW(j:Int):Bool:=decide (0 < j∧j < 2 ^ 200)
def Aa(C:Int→Int→Bool)(g:Int→Int→PyData):PyData→PyData→Option PyData
 |.int i,.int j=>if C i j then some (g i j)else none
 |_,_=>none
abbrev E_(C:Int→Int→Bool)(g:Int→Int→V):R2:=rI (fun i j=>C i j=true) g
theorem nM{K:Frag}{C:Int→Int→Bool}{g:Int→Int→PyData}{g':Int→Int→V}(hg:∀i j,DT (g i j)=some (g' i j)):iU K (E_ C g') (kR (Aa C g)):=by
 refine nJ fun d1 d2 d v1 v2 H Q e r1 r2=>?_
 unfold Aa at e
 split at e
 ·split at e
  ·cases e
   cases r1
   cases r2
   rename_i hC
   exact⟨_,hg _ _,fun q=>⟨_,_,rfl,rfl,hC,q⟩⟩
  ·cases e
 ·cases e
section
variable {X:Cx}
theorem mB{i:Int}(h1: -E9 < i)(h2:i < E9):Builtin.Int.intBits i≤2 ^ 20:=by
 unfold E9 at h1 h2
 have h:i.natAbs < 2 ^ 20000:=by
  have e:((2 ^ 20000:Nat):Int)=2 ^ 20000:=Int.natCast_pow 2 20000
  generalize (2 ^ 20000:Int)=z at h1 h2 e
  generalize (2 ^ 20000:Nat)=y at e ⊢
  omega
 unfold Builtin.Int.intBits
 split
 ·exact zz9 _
 ·rename_i hz
  have hz':i≠0:=by simpa using hz
  have:i.natAbs.log2 < 20000:=(Nat.log2_lt (by omega)).mpr h
  omega
theorem Ab{i j:Int}(h:kX i j=true):PySem.IntMulOk i j:=by
 unfold kX at h
 simp only[Bool.or_eq_true,decide_eq_true_eq]at h
 rcases h with(h |h) |h
 ·exact CMul.ok (.inl h)
 ·exact CMul.ok (.inr h)
 ·exact PySem.IntMulOk.of_bits (mB h.1 h.2.1) (mB h.2.2.1 h.2.2.2)
end
end PL
variable {it:PL.jP} {f el:PL.bj} {cond:PL.iT}
namespace PL
open PySem L2 Nh PyProof.Rows
abbrev mD:=L2.St
section
variable {X:Cx}
theorem OpR.or{f:Value→Value→Sem Value}(h:OpR X f r)(h':OpR X f r'):OpR X f (fun x y H Q=>r x y H Q∨r' x y H Q):=by
 intro pins s σ H x y v u Q I rx ry q
 rcases q with q |q
 ·exact h pins s σ H x y v u Q I rx ry q
 ·exact h' pins s σ H x y v u Q I rx ry q
theorem OpR.imp{f:Value→Value→Sem Value}(h:OpR X f r)(k:∀x y H Q,r' x y H Q→r x y H Q):OpR X f r':=fun pins s σ H x y v u Q I rx ry q=>h pins s σ H x y v u Q I rx ry (k _ _ _ _ q)
def DU(K:Frag):R2:=fun x y H Q=>∃l b xs zs,x=.ref l∧y=.ref b∧SqL K H l xs∧SqL K H b zs∧xs.length+zs.length≤sizeLine∧∀p,H p=none→Q (.ref p) (upd H p (.lst (xs++zs)))
theorem Cr:OpR X (binaryOp .Add) (DU X.K):=by
 intro pins s σ H x y v u Q I rx ry h
 obtain⟨l,b,xs,zs,rfl,rfl,hH,hB,hz,q⟩:=h
 cases rx
 cases ry
 obtain⟨its,r,p1,z1⟩:=I.list hH
 obtain⟨its2,r2,p2,z2⟩:=I.list hB
 obtain⟨⟨cls,dd,data,sl⟩,ho,hc,n,hd⟩:=p1.isList
 obtain⟨⟨cls2,dd2,data2,sl2⟩,ho2,hc2,n2,q9⟩:=p2.isList
 simp only at hc hd hc2 q9
 subst hc hd hc2 q9
 have l1:=r.length
 have l2:=r2.length
 refine concat_meets ⟨_,ho,rfl⟩ ⟨_,ho2,rfl⟩ noFill_list_add seq_list_add PySem.F.slot_list_add PySem.F.entry_list_add (PySem.F.args_list_add_2 _ _) (list_addW l b its.toArray its2.toArray n n2 dd dd2 sl sl2 (by simp only[mz];omega)) ⟨ho,ho2,?_⟩
 have ea:its.toArray++its2.toArray=(its++its2).toArray:=by simp
 rw[ea]
 exact⟨.ref _,_,I.lnew (t':=s.toks) (r.append r2) (by rw[qY];omega),rfl,q _ I.fresh⟩
def DV(K:Frag):R2:=fun x y H Q=>∃l k xs,x=.ref l∧y=.int k∧SqL K H l xs∧ -(2 ^ 63)≤k∧k < 2 ^ 63∧xs.length*k.toNat≤sizeLine∧
 ∀p,H p=none→Q (.ref p) (upd H p (.lst (List.replicate k.toNat xs).flatten))
theorem Cs:OpR X (binaryOp .Mult) (DV X.K):=by
 intro pins s σ H x y v u Q I rx ry h
 obtain⟨l,k,xs,rfl,rfl,hH,h1,h2,hz,q⟩:=h
 cases rx
 obtain⟨t,rfl⟩:=ry
 obtain⟨its,r,p1,z1⟩:=I.list hH
 obtain⟨⟨cls,d,data,sl⟩,ho,hcl,n,hd⟩:=p1.isList
 simp only at hcl hd
 subst hcl hd
 have l1:=r.length
 have hsz:its.toArray.size*k.toNat≤2 ^ 24:=by rw[mz,←l1];exact hz
 refine wpAny_binaryOp_repeat_ref (T:="list") (U:="int") (by decide) ⟨_,ho,rfl⟩ (fun s'=>typeIs_int s' k t) noFill_list_mul F.fills_int_mul F.slot_int_rmul repeat_list F.slot_int_index.lookup
  (call_meets F.slot_int_rmul (typeIs_int s k t) F.entry_int_rmul (F.args_int_rmul_2 _ _) (lm_int_rmul_list_any k t l its.toArray n d sl)
   ⟨ho,rfl,⟨_,ho,rfl⟩,call_meets F.slot_list_mul ⟨_,ho,rfl⟩ F.entry_list_mul (F.args_list_mul_2 _ _)
    (lm_list_mul_any l its.toArray n d sl k t (by simp[Builtin.List.listFitsIndex];omega) (by omega) (by simp[Builtin.List.listTooLong,sizeLine];omega))
    ⟨ho,?_⟩⟩)
 rw[listMul_foldl_if]
 exact⟨.ref _,_,I.lnew (t':=s.toks) (r.rep k.toNat) (by rw[Cn,Nat.mul_comm];exact hz),rfl,q _ I.fresh⟩
end
def bI:P2:=fun E s1 s2=>(look E s1).bind fun d1=>(look E s2).bind fun d2=>match d1,d2 with
 |.int i,.int j=>some (.sh (.int (i+j)),E)
 |.str a,.str b=>if a.length+b.length≤1000000 then some (.sh (.str (a++b)),E)else none
 |.list a,.list b=>if decide (a.length+b.length≤1000000)&&(!pw E s1||bR a)&&(!pw E s2||bR b)then some (.ow (a++b),E)else none
 |_,_=>none
theorem v_(h:n≤1000000):n < sizeLine:=zz8 h (by rw[sizeLine_eq];decide)
theorem eL(h:n≤1000000):n≤sizeLine:=Nat.le_of_lt (v_ h)
section
variable {K:Frag} {B F:Hp} {A:List Addr} {σ:mD} {H:Hp} {E:List Sl} {xs:List V} {Xs:List Sl} {v:V} {s:Sl} {ds:List PyData}
theorem FrF.items(h:FrF K B F A σ H E xs Xs)(e:Xs[k]? =some s)(q:PL.look E s=some (.list ds))(c:(!pw E s||bR ds)=true):∃a vs,xs[k]? =some (.ref a)∧SqL K H a vs∧RpA K F vs ds:=by
 obtain⟨v,ev,r,f⟩:=h.look e q
 cases hh:pw E s with
 |false=>
  obtain⟨a,vs,rfl,h1,h2⟩:=f hh
  exact⟨a,vs,ev,h1,h2⟩
 |true=>
  rw[hh]at c
  cases r with
  |lst h1 h2=>exact⟨_,_,ev,h1,h.coldA h2 (by simpa using c)⟩
theorem FrF.res2l(h:FrF K B F A σ H E (v2::v1::xs) (s2::s1::Xs))(r:RpA K F vs ds){p:Addr}(hp:H p=none):Frm K B σ (upd H p (.lst vs)) E (.ref p::xs) (.ow ds::Xs):=by
 obtain⟨A1,h⟩:=h.pop
 obtain⟨A2,h⟩:=h.pop
 exact⟨F,_,h.newl r hp⟩
end
abbrev DW(K:Frag):R2:=fun x y H Q=>(∃i j,x=.int i∧y=.int j∧Q (.int (i+j)) H)∨(∃i j,x=.str i∧y=.str j∧i.length+j.length≤sizeLine∧Q (.str (i++j)) H)∨DU K x y H Q
theorem qo:OpR X (binaryOp .Add) (DW X.K):=OpR.or EF (OpR.or tQ Cr)
theorem qp{K:Frag}:iU K (DW K) bI:=by
 intro B F A σ H E xs Xs v1 v2 s1 s2 res E' Q fr e q
 obtain⟨d1,e1,e⟩:=Za.mp e
 obtain⟨d2,e2,e⟩:=Za.mp e
 have r1:=(fr.look1 e1).1
 have r2:=(fr.look0 e2).1
 split at e
 ·cases e;cases r1;cases r2
  exact .inl ⟨_,_,rfl,rfl,q _ _ (fr.res2 ⟨rfl,_,rfl,.int _⟩)⟩
 ·split at e
  ·rename_i hl
   cases e;cases r1;cases r2
   exact .inr (.inl ⟨_,_,rfl,rfl,eL hl,q _ _ (fr.res2 ⟨rfl,_,rfl,.str _⟩)⟩)
  ·cases e
 ·split at e
  ·rename_i hc
   cases e
   simp only[qZ,decide_eq_true_eq]at hc
   obtain⟨a1,u1,x1,q1,i1⟩:=fr.items (k:=1) rfl e1 hc.1.2
   obtain⟨a2,u2,x2,q2,i2⟩:=fr.items (k:=0) rfl e2 hc.2
   cases x1;cases x2
   have l1:=i1.len
   have l2:=i2.len
   exact .inr (.inr ⟨_,_,_,_,rfl,rfl,q1,q2,eL (by omega),fun p hp=>q _ _ (fr.res2l (i1.append i2) hp)⟩)
  ·cases e
 ·cases e
def GY:P2:=kR (Aa (fun _ _=>true) fun i j=>.int (i - j))
def di:P2:=kR (Aa (fun _ j=>eW j) fun i j=>.int (i / j))
def eM:P2:=kR (Aa (fun _ j=>decide (0 < j)) fun i j=>.int (i % j))
def Fa:P2:=kR (Aa (fun i j=>decide (0≤j∧j≤1000000∧ -(2 ^ 64) < i∧i < 2 ^ 64)) fun i j=>.int (i ^ j.toNat))
section
variable {X:Cx}
theorem Ct:OpR X (binaryOp .Sub) (E_ (fun _ _=>true) fun i j=>.int (i - j)):=OpR.imp EG fun x y H Q ⟨i,j,a,b,_,q⟩=>⟨i,j,a,b,q⟩
theorem Ac:OpR X (binaryOp .FloorDiv) (E_ (fun _ j=>eW j) fun i j=>.int (i / j)):=H0 fun i j _ _ _ _ _ hc q=>by
 obtain⟨h1,h2⟩:=zz5 hc
 have h3:j.natAbs.log2 < 9000:=by
  have:j.natAbs < 2 ^ 200:=by omega
  have:=(Nat.log2_lt (n:=j.natAbs) (k:=200) (by omega)).mpr this
  omega
 exact floordiv_int (by omega) (by rw[Int.fdiv_eq_ediv_of_nonneg i (by omega)];exact q) (.inl (PyProof.noPylong_of_log2 h3))
theorem Cu:OpR X (binaryOp .Mod) (E_ (fun _ j=>decide (0 < j)) fun i j=>.int (i % j)):=OpR.imp EH fun x y H Q ⟨i,j,a,b,c,q⟩=>⟨i,j,a,b,zz5 c,q⟩
theorem Cv{i j:Int}(c:0≤j∧j≤1000000∧ -(2 ^ 64) < i∧i < 2 ^ 64):GI i j:=⟨c.1,c.2.1,by omega⟩
theorem Cw:OpR X (binaryOp .Pow) (E_ (fun i j=>decide (0≤j∧j≤1000000∧ -(2 ^ 64) < i∧i < 2 ^ 64)) fun i j=>.int (i ^ j.toNat)):=OpR.imp EI fun x y H Q ⟨i,j,a,b,c,q⟩=>⟨i,j,a,b,Cv (zz5 c),q⟩
end
def tT:P2:=fun E s1 s2=>(look E s1).bind fun d1=>(look E s2).bind fun d2=>match d1,d2 with
 |.int i,.int j=>if kX i j then some (.sh (.int (i*j)),E)else none
 |.list a,.int k=>if decide (a.length*k.toNat≤1000000∧ -1000000≤k∧k≤1000000)&&(!pw E s1||bR a)then some (.ow (List.replicate k.toNat a).flatten,E)else none
 |_,_=>none
abbrev DY(K:Frag):R2:=fun x y H Q=>E_ kX (fun i j=>.int (i*j)) x y H Q∨DV K x y H Q
theorem Cy:OpR X (binaryOp .Mult) (DY X.K):=OpR.or (H0 fun _ _ _ _ _ _ _ hc q=>mul_int q (Ab hc)) Cs
theorem Cz{K:Frag}:iU K (DY K) tT:=by
 intro B F A σ H E xs Xs v1 v2 s1 s2 res E' Q fr e q
 obtain⟨d1,e1,e⟩:=Za.mp e
 obtain⟨d2,e2,e⟩:=Za.mp e
 have r1:=(fr.look1 e1).1
 have r2:=(fr.look0 e2).1
 split at e
 ·split at e
  ·rename_i hm
   cases e;cases r1;cases r2
   exact .inl ⟨_,_,rfl,rfl,hm,q _ _ (fr.res2 ⟨rfl,_,rfl,.int _⟩)⟩
  ·cases e
 ·split at e
  ·rename_i hc
   cases e
   simp only[qZ,decide_eq_true_eq]at hc
   obtain⟨a1,u1,x1,q1,i1⟩:=fr.items (k:=1) rfl e1 hc.2
   cases x1;cases r2
   have l1:=i1.len
   exact .inr ⟨_,_,_,rfl,rfl,q1,by omega,by omega,eL (by rw[l1];exact hc.1.1),fun p hp=>q _ _ (fr.res2l (i1.rep _) hp)⟩
  ·cases e
 ·cases e
section
variable {X:Cx} {a b:Expr} {m1 m2:Bool} {f g:bj} {pos:Pos}
theorem bO(ha:EX X a m1 f)(hb:EX X b m2 g):EX X (.BinOp a .Add b pos) (m1||m2) (ao bI m2 f g):=nK qo qp ha hb
theorem Fb(ha:EX X a m1 f)(hb:EX X b m2 g):EX X (.BinOp a .Sub b pos) (m1||m2) (ao GY m2 f g):=nK Ct (nM fun _ _=>rfl) ha hb
theorem Ad(ha:EX X a m1 f)(hb:EX X b m2 g):EX X (.BinOp a .Mult b pos) (m1||m2) (ao tT m2 f g):=nK Cy Cz ha hb
theorem cw(ha:EX X a m1 f)(hb:EX X b m2 g):EX X (.BinOp a .FloorDiv b pos) (m1||m2) (ao di m2 f g):=nK Ac (nM fun _ _=>rfl) ha hb
theorem cH(ha:EX X a m1 f)(hb:EX X b m2 g):EX X (.BinOp a .Mod b pos) (m1||m2) (ao eM m2 f g):=nK Cu (nM fun _ _=>rfl) ha hb
theorem Ae(ha:EX X a m1 f)(hb:EX X b m2 g):EX X (.BinOp a .Pow b pos) (m1||m2) (ao Fa m2 f g):=nK Cw (nM fun _ _=>rfl) ha hb
end
def IH(K:Frag)(r:V→Hp→VK→Prop)(op:PyData→Option PyData):Prop:=∀(d1 d:PyData) (v1:V) (H:Hp) (Q:VK),op d1=some d→Rp K H v1 d1→∃v,DT d=some v∧(Q v H→r v1 H Q)
def iR(op:PyData→Option PyData)(f:bj):bj:=fun E=>(f E).bind fun a=>(look a.2 a.1).bind fun d1=>(op d1).map fun d=>(.sh d,a.2)
theorem DZ{K:Frag}{r:V→Hp→VK→Prop}{op:PyData→Option PyData}(hp:IH K r op){σ:mD}{Q:VK}(h:rd K m (iR op f) σ H Q):rd K m f σ H (fun x H1=>r x H1 Q):=by
 obtain⟨B,E,xs,Xs,res,E',fr,c,e,q⟩:=h
 obtain⟨⟨s1,E1⟩,e1,e⟩:=Za.mp e
 obtain⟨d1,e2,e⟩:=Za.mp e
 obtain⟨d,e3,e⟩:=Zab.mp e
 cases e
 refine⟨B,E,xs,Xs,s1,E1,fr,c,e1,fun v1 H1 ⟨F,A,fr1⟩=>?_⟩
 obtain⟨v,hv,k⟩:=hp d1 d v1 H1 Q e3 (fr1.look0 e2).1
 obtain⟨A',fr2⟩:=fr1.pop
 exact k (q v H1 ⟨F,A',fr2.push ⟨rfl,v,rfl,nI hv⟩⟩)
def Fc:PyData→Option PyData
 |.int i=>some (.int (-i))
 |_=>none
def Fd:PyData→Option PyData
 |.bool b=>some (.bool (!b))
 |_=>none
section
variable {X:Cx} {a b c:Expr} {m1 m2 m3:Bool} {f g h:bj} {pos:Pos}
theorem Fe(ha:EX X a m1 f):EX X (.UnaryOp .USub a pos) m1 (iR Fc f):=bv (GH EK ha) fun σ H Q h=>DZ (r:=rU fun i=>.int (-i)) (fun d1 d v1 H Q e r=>by
 cases d1 <;> simp[Fc]at e
 cases e;cases r
 exact⟨_,rfl,fun q=>⟨_,rfl,q⟩⟩) h
theorem Ff(ha:EX X a m1 f):EX X (.UnaryOp .Not a pos) m1 (iR Fd f):=bv (Ex ha) fun σ H Q h=>DZ (r:=fun x H1 Q=>∃c,x=.bl c∧Q (.bl (!c)) H1) (fun d1 d v1 H Q e r=>by
 cases d1 <;> simp[Fd]at e
 cases e;cases r
 exact⟨_,rfl,fun q=>⟨_,rfl,q⟩⟩) h
end
def D0(d1 d2:PyData):Option Bool:=match d1,d2 with
 |.int i,.int j=>some (decide (i=j))
 |.str a,.str b=>some (decide (a=b))
 |.bool a,.bool b=>some (decide (a=b))
 |.none,.none=>some true
 |.none,.str _=>some false
 |.str _,.none=>some false
 |d1,d2=>if SeqAt.shaped d1&&SeqAt.shaped d2 then some (PyData.eqv d1 d2)else none
def oW:P2:=kR fun d1 d2=>(D0 d1 d2).map fun b=>.bool b
def GZ:P2:=kR fun d1 d2=>(D0 d1 d2).map fun b=>.bool (!b)
abbrev II(K:Frag):R2:=fun x y H Q=>Jq x y H Q∨GV K x y H Q
abbrev IJ(K:Frag):R2:=fun x y H Q=>Jr x y H Q∨GW K x y H Q
theorem Af{K:Frag}{d1 d2:PyData}{b:Bool}(e:D0 d1 d2=some b)(r1:Rp K H v1 d1)(r2:Rp K H v2 d2):
  (EL v1 v2=true∧decide (v1=v2)=b)∨(DOf K H v1 d1∧DOf K H v2 d2∧SeqAt.shaped d1=true∧SeqAt.shaped d2=true∧PyData.eqv d1 d2=b):=by
 unfold D0 at e
 split at e
 ·cases e;cases r1;cases r2;exact .inl ⟨rfl,by simp⟩
 ·cases e;cases r1;cases r2;exact .inl ⟨rfl,by simp⟩
 ·cases e;cases r1;cases r2;exact .inl ⟨rfl,by simp⟩
 ·cases e;cases r1;cases r2;exact .inl ⟨rfl,rfl⟩
 ·cases e;cases r1;cases r2;exact .inl ⟨rfl,rfl⟩
 ·cases e;cases r1;cases r2;exact .inl ⟨rfl,rfl⟩
 ·split at e
  ·rename_i hs
   cases e
   simp only[qZ]at hs
   exact .inr ⟨r1.dof hs.1,r2.dof hs.2,hs.1,hs.2,rfl⟩
  ·cases e
theorem Ag{K:Frag}:iU K (II K) oW:=nJ fun d1 d2 d v1 v2 H Q e r1 r2=>by
 obtain⟨b,e',rfl⟩:=Zab.mp e
 refine⟨_,rfl,fun q=>?_⟩
 rcases Af e' r1 r2 with⟨a,rfl⟩ |⟨a1,a2,a3,a4,rfl⟩
 ·exact .inl ⟨a,q⟩
 ·exact .inr ⟨_,_,a1,a2,a3,a4,q⟩
theorem Fg{K:Frag}:iU K (IJ K) GZ:=nJ fun d1 d2 d v1 v2 H Q e r1 r2=>by
 obtain⟨b,e',rfl⟩:=Zab.mp e
 refine⟨_,rfl,fun q=>?_⟩
 rcases Af e' r1 r2 with⟨a,rfl⟩ |⟨a1,a2,a3,a4,rfl⟩
 ·exact .inl ⟨a,q⟩
 ·exact .inr ⟨_,_,a1,a2,a3,a4,q⟩
def rE(K:Frag)(r:R2)(op:PyData→PyData→Option PyData):Prop:=∀(d1 d2 d:PyData) (v1 v2:V) (H:Hp) (Q:VK),op d1 d2=some d→Rp K H v1 d1→Rp K H v2 d2→∃v,DT d=some v∧(Q v H→r v1 v2 H Q)
def iW(op op':PyData→PyData→Option PyData)(m2 m3:Bool)(f g h:bj):bj:=fun E=>(f E).bind fun a=>if (m2||m3)&&a.1.isBr then none else (g a.2).bind fun b=>if m3&&b.1.isBr then none else
 (look b.2 a.1).bind fun d1=>(look b.2 b.1).bind fun d2=>match op d1 d2 with
  |some (.bool true)=>(h b.2).bind fun c=>(look c.2 b.1).bind fun d2=>(look c.2 c.1).bind fun d3=>(op' d2 d3).map fun d=>(.sh d,c.2)
  |some (.bool false)=>some (.sh (.bool false),b.2)
  |_=>none
section
variable {X:Cx} {a b c:Expr} {m1 m2 m3:Bool} {f g h:bj} {pos:Pos}
theorem py(hu:X.A.units+64 < cLine)(ha:EX X a m1 f)(hb:EX X b m2 g):EX X (.Compare a [.Eq] [b] pos) (m1||m2) (ao oW m2 f g):=E8 (OpR.or DQ (zY hu)) Ag ha hb (qc _)
theorem wa(hu:X.A.units+64 < cLine)(ha:EX X a m1 f)(hb:EX X b m2 g):TX X (.Compare a [.Eq] [b] pos) (m1||m2) (iN (ao oW m2 f g)):=qm (OpR.or DQ (zY hu)) Ag ha hb (qc _)
theorem G0(hu:X.A.units+64 < cLine)(ha:EX X a m1 f)(hb:EX X b m2 g):TX X (.Compare a [.NotEq] [b] pos) (m1||m2) (iN (ao GZ m2 f g)):=qm (OpR.or GJ (EV hu)) Fg ha hb (qc _)
theorem rF{K:Frag}{op:PyData→PyData→Option PyData}(k:rE K r op)(k':rE K r' op'){σ:mD}{Q:VK}(z:rd K (m1||(m2||m3)) (iW op op' m2 m3 f g h) σ H Q):tO r r' (rd K m1 f) (rd K m2 g) (rd K m3 h) σ H Q:=by
 obtain⟨B,E,xs,Xs,res,E',fr,cl,e,q⟩:=z
 obtain⟨⟨s1,E1⟩,e1,e⟩:=Za.mp e
 by_cases hb:((m2||m3)&&s1.isBr)=true
 ·rw[if_pos hb]at e;cases e
 rw[if_neg hb]at e
 obtain⟨⟨s2,E2⟩,e2,e⟩:=Za.mp e
 by_cases hb2:(m3&&s2.isBr)=true
 ·rw[if_pos hb2]at e;cases e
 rw[if_neg hb2]at e
 obtain⟨d1,l1,e⟩:=Za.mp e
 obtain⟨d2,l2,e⟩:=Za.mp e
 have n1:(m2||m3)=true→s1.isBr=false:=fun z=>by
  cases hs:s1.isBr with
  |false=>rfl
  |true=>exact absurd (by rw[z,hs];rfl) hb
 have n2:m3=true→s2.isBr=false:=fun z=>by
  cases hs:s2.isBr with
  |false=>rfl
  |true=>exact absurd (by rw[z,hs];rfl) hb2
 refine⟨B,E,xs,Xs,s1,E1,fr,fun z=>cl (by simp[z]),e1,fun v1 H1 fr1=>?_⟩
 refine⟨B,E1,v1::xs,s1::Xs,s2,E2,fr1,fun z=>Calm.cons (cl (by simp[z])) (n1 (by simp[z])),e2,fun v2 H2 ⟨F,A,fr2⟩=>?_⟩
 cases ho:op d1 d2 with
 |none=>rw[ho]at e;cases e
 |some d=>
  rw[ho]at e
  obtain⟨v,hv,kk⟩:=k d1 d2 d v1 v2 H2 (fun z H3=>∃k,z=.bl k∧(if k=true then rd K m3 h σ H3 fun w' H4=>r' v2 w' H4 Q else Q (.bl false) H3)) ho (fr2.look1 l1).1 (fr2.look0 l2).1
  cases d with
  |bool t=>
   cases hv
   refine kk ⟨t,rfl,?_⟩
   cases t with
   |true=>
    rw[if_pos rfl]
    obtain⟨⟨s3,E3⟩,e3,e⟩:=Za.mp e
    obtain⟨d2',l2',e⟩:=Za.mp e
    obtain⟨d3,l3,e⟩:=Za.mp e
    obtain⟨d,ho',e⟩:=Zab.mp e
    cases e
    refine⟨B,E2,v2::v1::xs,s2::s1::Xs,s3,E3,⟨F,A,fr2⟩,fun z=>Calm.cons (Calm.cons (cl (by simp[z])) (n1 (by simp[z]))) (n2 z),e3,fun v3 H3 ⟨F3,A3,fr3⟩=>?_⟩
    obtain⟨v,hv,kk⟩:=k' d2' d3 d v2 v3 H3 Q ho' (fr3.look1 l2').1 (fr3.look0 l3).1
    obtain⟨A4,fr4⟩:=fr3.pop
    exact kk (q v H3 (fr4.res2 ⟨rfl,v,rfl,nI hv⟩))
   |false=>
    rw[if_neg (by decide)]
    cases e
    exact q _ _ (fr2.res2 ⟨rfl,_,rfl,.bl _⟩)
  |none=>cases e
  |int i=>cases e
  |str x=>cases e
  |list xs=>cases e
  |tuple xs=>cases e
  |dict kvs=>cases e
theorem Ah{o1 o2:CmpOp}{op:PyData→PyData→Option PyData}(ho:OpR X (compareOp o1) r)(ho':OpR X (compareOp o2) r')(k:rE X.K r op)(k':rE X.K r' op')(ha:EX X a m1 f)(hb:EX X b m2 g)(hc:EX X c m3 h)
  (hm:lastMarks [o1,o2] [b,c]=false:=by with_unfolding_all rfl):EX X (.Compare a [o1,o2] [b,c] pos) (m1||(m2||m3)) (iW op op' m2 m3 f g h):=bv (zM ho ho' ha hb hc hm) fun _ _ _ z=>rF k k' z
end
end PL
variable {σ:PL.mD}
namespace PL
open PySem L2 Nh
def mE(f g:bj):bj:=fun E=>(f E).bind fun a=>match a.1 with
 |.sh (.bool true)=>g a.2
 |.sh (.bool false)=>some (.sh (.bool false),a.2)
 |_=>none
def qr(f g:iT):iT:=fun E=>(f E).bind fun a=>if a.1 then some (true,a.2)else g a.2
def aV(f:iT):iT:=fun E=>(f E).map fun a=>(!a.1,a.2)
def iX:PyData→Option Bool
 |.none=>some false
 |.bool b=>some b
 |.int i=>some (i != 0)
 |.str x=>if x.length≤1000000 then some ((x.length:Int) != 0)else none
 |.list xs=>some (!xs.isEmpty)
 |.tuple xs=>some (!xs.isEmpty)
 |.dict _=>none
def bM(f:bj):iT:=fun E=>(f E).bind fun a=>match a.1 with
 |.al i=>match a.2[i]? with
  |some (.od kvs)=>some (!kvs.isEmpty,a.2)
  |some s=>(s.val.bind iX).map fun b=>(b,a.2)
  |none=>none
 |s=>(s.val.bind iX).map fun b=>(b,a.2)
section
variable {X:Cx} {a b c:Expr} {dO:List Expr} {m1 m2 m3:Bool} {f g h:bj} {t u:iT} {pos:Pos} {K:Frag}
theorem qu{op}(h:EX X a m1 f):EX X (.BoolOp op [a] pos) m1 f:=Ev h
theorem nN(ha:EX X a m1 f)(hb:EX X (.BoolOp .And (b::dO) pos) m2 g):EX X (.BoolOp .And (a::b::dO) pos) (m1||m2) (mE f g):=by
 refine bv (Ew ha hb) fun σ H Q z=>?_
 obtain⟨B,E,xs,Xs,res,E',fr,cl,e,q⟩:=z
 obtain⟨⟨s1,E1⟩,e1,e⟩:=Za.mp e
 refine⟨B,E,xs,Xs,s1,E1,fr,fun z=>cl (by simp[z]),e1,fun v1 H1 ⟨F,A,fr1⟩=>?_⟩
 simp only at e
 split at e
 ·obtain⟨r,_⟩:=fr1.look0 (d:=.bool true) rfl
  cases r
  obtain⟨A',fr2⟩:=fr1.pop
  exact⟨true,rfl,(if_pos rfl).mpr ⟨B,E1,xs,Xs,res,E',⟨F,A',fr2⟩,fun z=>cl (by simp[z]),e,q⟩⟩
 ·cases e
  obtain⟨r,_⟩:=fr1.look0 (d:=.bool false) rfl
  cases r
  exact⟨false,rfl,(if_neg (by decide)).mpr (q _ _ ⟨F,A,fr1⟩)⟩
 ·cases e
theorem Ai(ha:TX X a m1 t):WX X (.BoolOp .Or [a] pos) m1 t:=Et ha
theorem D1(ha:TX X a m1 t)(hb:WX X (.BoolOp .Or (b::dO) pos) m2 u):WX X (.BoolOp .Or (a::b::dO) pos) (m1||m2) (qr t u):=by
 refine E7 (Gy ha hb) fun σ H Q z=>?_
 obtain⟨B,E,xs,Xs,res,E',fr,cl,e,q⟩:=z
 obtain⟨⟨b1,E1⟩,e1,e⟩:=Za.mp e
 refine⟨B,E,xs,Xs,b1,E1,fr,fun z=>cl (by simp[z]),e1,fun H1 fr1=>?_⟩
 cases b1 with
 |true=>cases e;exact(if_pos rfl).mpr (q _ fr1)
 |false=>exact(if_neg (by decide)).mpr ⟨B,E1,xs,Xs,res,E',fr1,fun z=>cl (by simp[z]),e,q⟩
theorem G1(h:WX X a m1 t):TX X a m1 t:=PW.pt h
theorem cf(ha:TX X a m1 t):TX X (.UnaryOp .Not a pos) m1 (aV t):=by
 refine ql (Eu ha) fun σ H Q z=>?_
 obtain⟨B,E,xs,Xs,res,E',fr,cl,e,q⟩:=z
 obtain⟨⟨b1,E1⟩,e1,e⟩:=Zab.mp e
 cases e
 exact⟨B,E,xs,Xs,b1,E1,fr,cl,e1,fun H1 fr1=>q _ fr1⟩
theorem Fh{b:Bool}(r:Rp K H v d)(e:iX d=some b):zO K v H b:=by
 cases r with
 |non=>cases e;rfl
 |bl b=>cases e;rfl
 |int i=>cases e;rfl
 |str x=>
  simp only[iX]at e
  split at e
  ·rename_i hl
   cases e
   exact⟨eL hl,rfl⟩
  ·cases e
 |lst h r=>cases e;exact .inl ⟨_,h,by cases r <;> rfl⟩
 |tup h r=>cases e;exact .inr (.inl ⟨_,h,by cases r <;> rfl⟩)
 |dct h r=>cases e
 |exc h r=>cases e
theorem bZ(ha:EX X a m1 f)(he:∀whole,isTrue a X.env whole=(do let v ←whole;standAt a.pos;holding [v] (truthy v)):=by exact fun _=>rfl):TX X a m1 (bM f):=by
 refine ql (zP ha he) fun σ H Q z=>?_
 obtain⟨B,E,xs,Xs,res,E',fr,cl,e,q⟩:=z
 obtain⟨⟨s,E1⟩,e1,e⟩:=Za.mp e
 refine⟨B,E,xs,Xs,s,E1,fr,cl,e1,fun v1 H1 ⟨F,A,fr1⟩=>?_⟩
 have key:∀d,look E1 s=some d→(iX d).map (fun b=>(b,E1))=some (res,E')→∃k,zO X.K v1 H1 k∧Q k H1:=fun d l e=>by
  obtain⟨b,e',z⟩:=Zab.mp e
  cases z
  obtain⟨A',fr2⟩:=fr1.pop
  exact⟨_,Fh (fr1.look0 l).1 e',q _ ⟨F,A',fr2⟩⟩
 have kv:(s.val.bind iX).map (fun b=>(b,E1))=some (res,E')→(∀i,s≠ .al i)→∃k,zO X.K v1 H1 k∧Q k H1:=fun e na=>by
  obtain⟨b,e',z⟩:=Zab.mp e
  obtain⟨d,e1,e2⟩:=Za.mp e'
  refine key d ?_ (by rw[e2];exact congrArg some z)
  cases s <;> first |exact e1 |exact absurd rfl (na _)
 simp only at e
 split at e
 ·rename_i i
  split at e
  ·rename_i kvs ei
   cases e
   obtain⟨v',A1,ev,rfl,w,ew,hw⟩:=fr1.ext (k:=0) rfl
   cases ev;cases ew
   obtain⟨o,A1,eo,l,us,A2,rfl,_,hl,r⟩:=fr1.var ei
   rw[hw]at eo
   cases eo
   obtain⟨A',fr2⟩:=fr1.pop
   exact⟨_,.inr (.inr ⟨_,hl,by cases us <;> cases kvs <;> first |rfl |exact False.elim r⟩),q _ ⟨F,A',fr2⟩⟩
  ·rename_i s' _ ei
   obtain⟨b,e',z⟩:=Zab.mp e
   obtain⟨d,e1,e2⟩:=Za.mp e'
   exact key d (by simp[look,ei,e1]) (by rw[e2];exact congrArg some z)
  ·cases e
 ·rename_i na
  exact kv e na
end
theorem Aj{a b:Expr}{m2:Bool}{g h:bj}{o1 o2:CmpOp}{op:PyData→PyData→Option PyData}(ho:OpR X (compareOp o1) r)(ho':OpR X (compareOp o2) r')(k:rE X.K r op)(k':rE X.K r' op')(ha:EX X a m1 f)(hb:EX X b m2 g)(hc:EX X c m3 h)
  (hm:lastMarks [o1,o2] [b,c]=false:=by with_unfolding_all rfl):TX X (.Compare a [o1,o2] [b,c] pos) (m1||(m2||m3)) (iN (iW op op' m2 m3 f g h)):=ql (zN ho ho' ha hb hc hm) fun _ _ _ z=>rF k k' (z_ z)
def am:lM:=fun E=>some ([],E)
def af(m2:Bool)(f:bj)(g:lM):lM:=fun E=>(f E).bind fun a=>if m2&&a.1.isBr then none else (g a.2).map fun b=>(a.1::b.1,b.2)
def cQ:jP:=fun E=>some ([],E)
def aw(f:bj)(g:jP):jP:=fun E=>(f E).bind fun a=>(frz a.2 a.1).bind fun b=>(g b.2).map fun c=>(b.1::c.1,c.2)
def CA(f:jP):bj:=fun E=>(f E).bind fun a=>if a.1.length≤1000000 then some (.sh (.tuple a.1),a.2)else none
def cR(f:jP):bj:=fun E=>(f E).bind fun a=>if a.1.length≤1000000 then some (.ow a.1,a.2)else none
section
variable {X:Cx} {e:Expr} {es:List Expr} {m1 m2:Bool} {f:bj} {g:lM} {d:jP} {pos:Pos} {K:Frag}
theorem aq:AX X [] false am:=by
 refine nH eJ fun σ H Q z=>?_
 obtain⟨B,E,xs,Xs,res,E',fr,cl,e,q⟩:=z
 cases e
 exact q [] H rfl fr
theorem ah(ha:EX X e m1 f)(hr:AX X es m2 g)(hs:starEach (e::es) X.env=(false,eval e X.env)::starEach es X.env:=by rfl):AX X (e::es) (m1||m2) (af m2 f g):=by
 refine nH (cP ha hr hs) fun σ H Q z=>?_
 obtain⟨B,E,xs,Xs,res,E',fr,cl,e,q⟩:=z
 obtain⟨⟨s,E1⟩,e1,e⟩:=Za.mp e
 by_cases hb:(m2&&s.isBr)=true
 ·rw[if_pos hb]at e;cases e
 rw[if_neg hb]at e
 obtain⟨⟨rs,E2⟩,e2,e⟩:=Zab.mp e
 cases e
 refine⟨B,E,xs,Xs,s,E1,fr,fun z=>cl (by simp[z]),e1,fun v1 H1 fr1=>?_⟩
 refine⟨B,E1,v1::xs,s::Xs,rs,E2,fr1,fun z=>Calm.cons (cl (by simp[z])) ?_,e2,fun vs H2 hl fr2=>?_⟩
 ·cases hs:s.isBr with
  |false=>rfl
  |true=>exact absurd (by simp[z,hs]) hb
 ·exact q (v1::vs) H2 (by simp[hl]) (by simpa using fr2)
theorem tU:DX X [] false cQ:=by
 refine nH eJ fun σ H Q z=>?_
 obtain⟨B,E,xs,Xs,res,E',fr,cl,e,q⟩:=z
 cases e
 exact q [] H rfl fr
theorem kY(ha:EX X e m1 f)(hr:DX X es m2 d)(hs:starEach (e::es) X.env=(false,eval e X.env)::starEach es X.env:=by rfl):DX X (e::es) (m1||m2) (aw f d):=by
 refine nH (cP ha hr hs) fun σ H Q z=>?_
 obtain⟨B,E,xs,Xs,res,E',fr,cl,e,q⟩:=z
 obtain⟨⟨s,E1⟩,e1,e⟩:=Za.mp e
 obtain⟨⟨d1,E2⟩,e2,e⟩:=Za.mp e
 obtain⟨⟨rs,E3⟩,e3,e⟩:=Zab.mp e
 cases e
 refine⟨B,E,xs,Xs,s,E1,fr,fun z=>cl (by simp[z]),e1,fun v1 H1 ⟨F,A,fr1⟩=>?_⟩
 obtain⟨F2,A2,fr2⟩:=fr1.frz0 e2
 refine⟨B,E2,v1::xs,.sh d1::Xs,rs,E3,⟨F2,A2,fr2⟩,fun z=>Calm.cons (cl (by simp[z])) rfl,e3,fun vs H2 hl fr2=>?_⟩
 exact q (v1::vs) H2 (by simp[hl]) (by simpa using fr2)
theorem FrF.shsR{B:Hp}:∀{us:List V} {es:List PyData} {A:List Addr},us.length=es.length→FrF K B F A σ H E (us++xs) (es.map .sh++Xs)→RpA K F us es∧∃A',FrF K B F A' σ H E xs Xs
 |[],[],A,_,h=>⟨.nil,A,h⟩
 |u::us,e::es,A,hl,h=>by
  obtain⟨v,A1,ev,rfl,w,ew,r⟩:=h.ext (k:=0) rfl
  cases ev;cases ew
  obtain⟨A',h'⟩:=FrF.pop (xs:=us++xs) (Xs:=es.map .sh++Xs) h
  obtain⟨r',q⟩:=FrF.shsR (by simpa using hl) h'
  exact⟨.cons r r',q⟩
 |[],_::_,_,e,_=>by cases e
 |_::_,[],_,e,_=>by cases e
theorem FrF.shs{B:Hp}{us:List V}{es:List PyData}{A:List Addr}(hl:us.length=es.length)(h:FrF K B F A σ H E (us.reverse++xs) (es.reverse.map .sh++Xs)):RpA K F us es∧∃A',FrF K B F A' σ H E xs Xs:=by
 obtain⟨r,q⟩:=FrF.shsR (by simpa using hl) h
 have:=r.rev
 rw[List.reverse_reverse,List.reverse_reverse]at this
 exact⟨this,q⟩
theorem Fi{x1}(h:DX X es m1 d):EX X (.Tuple es x1 pos) m1 (CA d):=by
 refine bv (EN h) fun σ H Q z=>?_
 obtain⟨B,E,xs,Xs,res,E',fr,cl,e,q⟩:=z
 obtain⟨⟨ds,E1⟩,e1,e⟩:=Za.mp e
 simp only at e
 split at e
 ·rename_i hl
  cases e
  refine⟨B,E,xs,Xs,ds,_,fr,cl,e1,fun vs H1 hv ⟨F,A,fr1⟩=>?_⟩
  obtain⟨r,A',fr2⟩:=fr1.shs hv
  exact⟨eL (by omega),fun p hp=>q _ _ ⟨_,_,fr2.newt r hp⟩⟩
 ·cases e
theorem tV(h:DX X es m1 d):EX X (.List es pos) m1 (cR d):=by
 refine bv (EO h) fun σ H Q z=>?_
 obtain⟨B,E,xs,Xs,res,E',fr,cl,e,q⟩:=z
 obtain⟨⟨ds,E1⟩,e1,e⟩:=Za.mp e
 simp only at e
 split at e
 ·rename_i hl
  cases e
  refine⟨B,E,xs,Xs,ds,_,fr,cl,e1,fun vs H1 hv ⟨F,A,fr1⟩=>?_⟩
  obtain⟨r,A',fr2⟩:=fr1.shs hv
  exact⟨eL (by omega),fun p hp=>q _ _ ⟨_,_,fr2.newl r hp⟩⟩
 ·cases e
end
def xG(ds:List PyData)(lo hi:Option Int):List PyData:=(ds.drop (HT.m4 ds.length 0 lo)).take (HT.m4 ds.length ds.length hi - HT.m4 ds.length 0 lo)
def zE:P2:=fun E s1 s2=>(look E s1).bind fun d1=>(look E s2).bind fun d2=>match d2 with
 |.int i=>match d1 with
  |.list ds=>(atI ds i).map fun d=>(if pw E s1&& !dP d then .br d else .sh d,E)
  |.tuple ds=>(atI ds i).map fun d=>(if pw E s1&& !dP d then .br d else .sh d,E)
  |.str z=>if z.length≤1000000 then (atI z.cps.toList i).map fun c=>(.sh (.str ⟨#[c]⟩),E)else none
  |_=>none
 |_=>none
section
variable {K:Frag} {H:Hp}
theorem RpA.atI{i:Int}(h:RpA K H vs ds)(e:L2.atI ds i=some d):∃v,L2.atI vs i=some v∧Rp K H v d:=by
 unfold L2.atI at e ⊢
 obtain⟨j,e1,e2⟩:=Za.mp e
 obtain⟨v,ev,r⟩:=h.get e2
 exact⟨v,by rw[h.len,e1];exact ev,r⟩
theorem FrF.item{B:Hp}{A:List Addr}(fr:FrF K B F A σ H E (v2::v1::xs) (s2::s1::Xs))(r:Rp K H v d)(f:pw E s1=false→Rp K F v d):
  Frm K B σ H E (v::xs) ((if pw E s1&& !dP d then .br d else .sh d)::Xs):=by
 by_cases hc:(pw E s1&& !dP d)=true
 ·rw[if_pos hc]
  exact fr.res2 ⟨rfl,v,rfl,r⟩
 ·rw[if_neg hc]
  refine fr.res2 ⟨rfl,v,rfl,?_⟩
  cases hh:pw E s1 with
  |false=>exact f hh
  |true=>
   rw[hh]at hc
   exact fr.cold r (by simpa using hc)
theorem Fj:iU K (Js K) zE:=by
 intro B F A σ H E xs Xs v1 v2 s1 s2 res E' Q fr e q
 obtain⟨d1,e1,e⟩:=Za.mp e
 obtain⟨d2,e2,e⟩:=Za.mp e
 obtain⟨r1,f1⟩:=fr.look1 e1
 have r2:=(fr.look0 e2).1
 split at e
 ·cases r2
  split at e
  ·obtain⟨d,ed,e⟩:=Zab.mp e
   cases e
   cases hh:pw E s1 with
   |false=>
    obtain⟨a,vs,rfl,h1,h2⟩:=f1 hh
    obtain⟨v,ev,rv⟩:=h2.atI ed
    have z:=fr.item (rv.same fr.fh) fun _=>rv
    rw[hh]at z q
    exact .inl ⟨_,_,_,v,rfl,rfl,h1,ev,q _ _ z⟩
   |true=>
    cases r1 with
    |lst h1 h2=>
     obtain⟨v,ev,rv⟩:=h2.atI ed
     have z:=fr.item rv fun h=>absurd (hh.symm.trans h) (by decide)
     rw[hh]at z q
     exact .inl ⟨_,_,_,v,rfl,rfl,h1,ev,q _ _ z⟩
  ·obtain⟨d,ed,e⟩:=Zab.mp e
   cases e
   cases hh:pw E s1 with
   |false=>
    have h0:Rp K F v1 _:=f1 hh
    cases h0 with
    |tup h1 h2=>
     obtain⟨v,ev,rv⟩:=h2.atI ed
     have z:=fr.item (rv.same fr.fh) fun _=>rv
     rw[hh]at z q
     exact .inr (.inl ⟨_,_,_,v,rfl,rfl,fr.fh.tup h1,ev,q _ _ z⟩)
   |true=>
    cases r1 with
    |tup h1 h2=>
     obtain⟨v,ev,rv⟩:=h2.atI ed
     have z:=fr.item rv fun h=>absurd (hh.symm.trans h) (by decide)
     rw[hh]at z q
     exact .inr (.inl ⟨_,_,_,v,rfl,rfl,h1,ev,q _ _ z⟩)
  ·split at e
   ·rename_i hl
    obtain⟨c,ec,e⟩:=Zab.mp e
    cases e;cases r1
    exact .inr (.inr ⟨_,_,c,rfl,rfl,eL hl,ec,q _ _ (fr.res2 ⟨rfl,_,rfl,.str _⟩)⟩)
   ·cases e
  ·cases e
 ·cases e
end
end PL
namespace L2
open PySem PySem.Spec PyProof.Rows
abbrev KT(H:Hp):List (List iQ×V)→List (List iQ×Addr×Value)→Prop:=Paired fun p q=>p.1=q.1∧H q.2.1=some (.tup (p.1.map kV))∧RelV p.2 q.2.2
section
variable {P:Program} {w:World} {H:Hp} {h:Heap} {a:Addr}
theorem G2{u:HO}(ok:HOk P w H h)(e:Rd H a u):ObjOk P w H h a u:=e.ok ok
theorem G3{kvs:List (iQ×V)}(ok:HOk P w H h)(e:Rd H a (.dK kvs)):kvs.length≤sizeLine∧(a == sysModules)=false∧∃vs,KV kvs vs∧h.DictOf (mZ P w) a vs:=
 show ObjOk P w H h a (.dK kvs)from G2 ok e
end
section
variable {X:Cx} {pins:List (Addr×Obj)} {σ:St} {H:Hp} {s:Shared} {a:Addr} {y v:V} {u r:Value} {o:Option V} {A:Around} {E:Value→Shared→Prop}
theorem Inv.big(I:Inv X pins σ H s):sysModules < s.heap.objs.size:=by
 have h:mainGlobals < s.heap.objs.size:=(I.mod.glob.keeps I.bk).lt
 exact Nat.lt_trans (by decide) h
end
theorem Ak{w:World}(h:Heap)(hb:sysModules < h.objs.size):ObjOk P w H (h.push {cls:=.type "dict",data:=.dict #[]}) h.objs.size (.dK []):=
 ⟨zz9 _,beq_eq_false_iff_ne.mpr (Ne.symm (eU hb)),[],.nil,Heap.DictOf.new h⟩
def Fk:TE:=fun _ H Q=>∀p,H p=none→Q (.ref p) (upd H p (.dK []))
section
variable {X:Cx} {pos:Pos}
theorem Al:PE X (.Dict [] [] pos) Fk:=fun pins s σ H Q I h=>
 wpAny_Dict_empty ⟨.ref s.heap.objs.size,_,I.laid (a:=s.heap.objs.size) (o:=.dK []) (t':=s.toks) (fun _ _ q=>eT _ q) (eD _) (Ak s.heap I.big),rfl,h _ (I.hok.fresh (eD _))⟩
end
end L2
namespace PL
open PySem L2 Nh
theorem kZ{a b:Expr}{m2:Bool}{g:bj}(ha:EX X a m1 f)(hb:EX X b m2 g)(hs:vS b:=by exact fun _ _=>rfl):EX X (.Subscript a b pos) (m1||m2) (ao zE m2 f g):=bv (GQ ES ha hb hs) fun _ _ _ h=>lQ Fj h
abbrev CB:=List Sl→Option (Option Int×List Sl)
def ro(K:Frag)(m:Bool)(f:CB):TO:=fun σ H Q=>∃B E xs Xs o E',Frm K B σ H E xs Xs∧(m=true→Calm Xs)∧f E=some (o,E')∧∀H',Frm K B σ H' E' xs Xs→Q o H'
def OX(X:Cx)(e:Option Expr)(m:Bool)(f:CB):Prop:=PO X e (ro X.K m f)
def eF:CB:=fun E=>some (none,E)
def b7(f:bj):CB:=fun E=>(f E).bind fun a=>match look a.2 a.1 with
 |some (.int i)=>some (some i,a.2)
 |_=>none
section
variable {X:Cx} {e:Expr} {lo hi:Option Expr} {m1 m2 m3:Bool} {f:bj} {g h:CB} {pos p2:Pos} {K:Frag}
theorem Am{e:Option Expr}{t t':TO}(h:PO X e t)(k:∀σ H Q,t' σ H Q→t σ H Q):PO X e t':=fun pins s σ H Q I q=>h pins s σ H Q I (k σ H Q q)
theorem fV:OX X none false eF:=Am Cg fun σ H Q z=>by
 obtain⟨B,E,xs,Xs,res,E',fr,cl,e,q⟩:=z
 cases e
 exact q _ fr
theorem dM(he:EX X e m1 f):OX X (some e) m1 (b7 f):=Am (Ch he) fun σ H Q z=>by
 obtain⟨B,E,xs,Xs,res,E',fr,cl,e,q⟩:=z
 obtain⟨⟨s,E1⟩,e1,e⟩:=Za.mp e
 refine⟨B,E,xs,Xs,s,E1,fr,cl,e1,fun v1 H1 ⟨F,A,fr1⟩=>?_⟩
 simp only at e
 split at e
 ·rename_i i l
  cases e
  have r:=(fr1.look0 l).1
  cases r
  obtain⟨A',fr2⟩:=fr1.pop
  exact⟨i,rfl,q _ ⟨F,A',fr2⟩⟩
 ·cases e
theorem RpA.cut(h:RpA K F vs ds)(lo hi:Option Int):RpA K F (xC vs lo hi) (xG ds lo hi):=by
 unfold xC xG
 rw[h.len]
 exact(h.drop _).take _
end
def fT(E:List Sl):List Sl→Option (List PyData)
 |[]=>some []
 |s::ss=>(look E s).bind fun d=>(fT E ss).map fun ds=>d::ds
theorem lookA_iff:∀{ss:List Sl} {ds:List PyData},fT E ss=some ds↔Paired (fun s d=>look E s=some d) ss ds
 |[],ds=>⟨fun h=>by cases h;exact .nil,fun h=>by cases h;rfl⟩
 |s::ss,ds=>by
  constructor
  ·intro h
   obtain⟨d,h1,h⟩:=Za.mp h
   obtain⟨es,h2,h⟩:=Zab.mp h
   cases h
   exact .cons h1 (lookA_iff.mp h2)
  ·intro h
   cases h with
   |cons h1 h2=>simp[fT,h1,lookA_iff.mpr h2]
theorem xH(h:fT E ss=some ds):fT E ss.reverse=some ds.reverse:=lookA_iff.mpr (kl (lookA_iff.mp h))
section
variable {X:Cx} {K:Frag} {B F:Hp} {σ:mD} {H:Hp} {E:List Sl} {xs:List V} {Xs:List Sl}
theorem FrF.looksR:∀{us:List V} {ts:List Sl} {es:List PyData} {A:List Addr},us.length=ts.length→FrF K B F A σ H E (us++xs) (ts++Xs)→fT E ts=some es→RpA K H us es∧∃A',FrF K B F A' σ H E xs Xs
 |[],[],es,A,_,h,e=>by cases e;exact⟨.nil,A,h⟩
 |u::us,t::ts,es,A,hl,h,e=>by
  obtain⟨d,h1,e⟩:=Za.mp e
  obtain⟨es',h2,e⟩:=Zab.mp e
  cases e
  have r:=(FrF.look0 (xs:=us++xs) (Xs:=ts++Xs) h h1).1
  obtain⟨A',h'⟩:=FrF.pop (xs:=us++xs) (Xs:=ts++Xs) h
  obtain⟨r',q⟩:=FrF.looksR (by simpa using hl) h' h2
  exact⟨.cons r r',q⟩
 |[],_::_,_,_,e,_,_=>by cases e
 |_::_,[],_,_,e,_,_=>by cases e
theorem FrF.looks{us:List V}{ts:List Sl}{es:List PyData}{A:List Addr}(hl:us.length=ts.length)(h:FrF K B F A σ H E (us.reverse++xs) (ts.reverse++Xs))(e:fT E ts=some es):RpA K H us es∧∃A',FrF K B F A' σ H E xs Xs:=by
 obtain⟨r,q⟩:=FrF.looksR (by simpa using hl) h (xH e)
 have:=r.rev
 rw[List.reverse_reverse,List.reverse_reverse]at this
 exact⟨this,q⟩
end
def Fm(K:Frag)(r:List V→Hp→VK→Prop)(op:List PyData→Option PyData):Prop:=∀(ds:List PyData) (d:PyData) (vs:List V) (H:Hp) (Q:VK),op ds=some d→RpA K H vs ds→∃v,DT d=some v∧(Q v H→r vs H Q)
def j5(op:List PyData→Option PyData)(g:lM):bj:=fun E=>(g E).bind fun a=>(fT a.2 a.1).bind fun ds=>(op ds).map fun d=>(.sh d,a.2)
theorem Fn{K:Frag}{r:List V→Hp→VK→Prop}{op:List PyData→Option PyData}(hp:Fm K r op){g:lM}{Q:VK}(h:rd K m (j5 op g) σ H Q):IC r (ra K m g) σ H Q:=by
 obtain⟨B,E,xs,Xs,res,E',fr,cl,e,q⟩:=h
 obtain⟨⟨rs,E1⟩,e1,e⟩:=Za.mp e
 obtain⟨ds,e2,e⟩:=Za.mp e
 obtain⟨d,e3,e⟩:=Zab.mp e
 cases e
 refine⟨B,E,xs,Xs,rs,E1,fr,cl,e1,fun vs H1 hl ⟨F,A,fr1⟩=>?_⟩
 obtain⟨r1,A',fr2⟩:=fr1.looks hl e2
 obtain⟨v,hv,k⟩:=hp ds d vs H1 Q e3 r1
 exact k (q v H1 ⟨F,A',fr2.push ⟨rfl,v,rfl,nI hv⟩⟩)
def j6:List PyData→Option PyData
 |[.list xs]=>some (.int xs.length)
 |[.tuple xs]=>some (.int xs.length)
 |[.str z]=>if z.length≤1000000 then some (.int z.length)else none
 |_=>none
theorem RpA.one{K:Frag}(h:RpA K H vs [d]):∃v,vs=[v]∧Rp K H v d:=by
 cases h with
 |cons h t=>cases t;exact⟨_,rfl,h⟩
section
variable {X:Cx} {e:Expr} {es:List Expr} {m1:Bool} {g:lM} {p pos:Pos} {K:Frag}
abbrev G4(K:Frag):List V→Hp→VK→Prop:=fun xs H Q=>(∃p ys,xs=[.ref p]∧(SqL K H p ys∨SqT K H p ys)∧Q (.int ys.length) H)∨(∃z,xs=[.str z]∧z.length≤sizeLine∧Q (.int z.length) H)
theorem CC:Fm K (G4 K) j6:=fun ds d vs H Q e r=>by
 unfold j6 at e
 split at e
 ·cases e
  obtain⟨v,rfl,r'⟩:=r.one
  cases r' with
  |lst h1 h2=>exact⟨_,rfl,fun q=>.inl ⟨_,_,rfl,.inl h1,by rw[h2.len];exact q⟩⟩
 ·cases e
  obtain⟨v,rfl,r'⟩:=r.one
  cases r' with
  |tup h1 h2=>exact⟨_,rfl,fun q=>.inl ⟨_,_,rfl,.inr h1,by rw[h2.len];exact q⟩⟩
 ·split at e
  ·rename_i hl
   cases e
   obtain⟨v,rfl,r'⟩:=r.one
   cases r'
   exact⟨_,rfl,fun q=>.inr ⟨_,rfl,eL hl,q⟩⟩
  ·cases e
 ·cases e
theorem An{id:String} {r:List V→Hp→VK→Prop} {op:List PyData→Option PyData} (hp:Fm X.K r op) (hc:CallR X (.builtin id) r) (hg:Gl X x) (hm:X.mg x=none) (hv:bootBuiltins x=some (.builtin id)) (ha:AX X (e::es) m1 g) (hn:x≠"__name__":=by decide) (hdb:(x == ("__debug__":Str))=false:=by decide)
  (he:starEach (e::es) X.env=(false,eval e X.env)::starEach es X.env:=by rfl) (hpl:(backTo pos (starEach es X.env)).any (·.1)=false:=by rfl):EX X (.Call (.Name x p) (e::es) [] pos) m1 (j5 op g):=
 bv (gX hc hg hm hv ha hn hdb he hpl) fun _ _ _ h=>Fn hp h
theorem iZ(hg:Gl X "len") (hm:X.mg "len"=none) (ha:AX X [e] m1 g) (he:starEach [e] X.env=[(false,eval e X.env)]:=by rfl):EX X (.Call (.Name "len" p) [e] [] pos) m1 (j5 j6 g):=An CC (CallR.or qh qi) hg hm PySem.boot_len ha (by decide) (by decide) he rfl
end
inductive Ty where
 |non |bool |int |str |list |tuple |dict
def Ty.name:Ty→String
 |.non=>"NoneType"
 |.bool=>"bool"
 |.int=>"int"
 |.str=>"str"
 |.list=>"list"
 |.tuple=>"tuple"
 |.dict=>"dict"
def Ty.is:Ty→Ty→Bool
 |.non,.non=>true
 |.bool,.bool=>true
 |.bool,.int=>true
 |.int,.int=>true
 |.str,.str=>true
 |.list,.list=>true
 |.tuple,.tuple=>true
 |.dict,.dict=>true
 |_,_=>false
def Ia:PyData→Ty
 |.none=>.non
 |.bool _=>.bool
 |.int _=>.int
 |.str _=>.str
 |.list _=>.list
 |.tuple _=>.tuple
 |.dict _=>.dict
theorem G5(K:Frag)(t n:Ty):kitOne K (.type t.name) (.type n.name)=some (t.is n):=by cases t <;> cases n <;> rfl
def i0(n:Ty):PyData→Option PyData
 |.dict ((.none,_)::_)=>none
 |d=>some (.bool ((Ia d).is n))
section
variable {X:Cx} {e:Expr} {m1:Bool} {f:bj} {p p2 pos:Pos}
theorem xI{s:Shared}{x:V}{u:Value}{r:PyData}{n:Ty}{A:Around}{E:Value→Shared→Prop}(I:Inv X pins σ H s)(rx:RelV x u)(rp:Rp X.K H x d)(hd:i0 n d=some r)(h:∀tk b,r=.bool b→Q (.bool b) {s with toks:=tk}):
  wpAny (model X.prog X.w) A (call (.builtin "isinstance") [u,.type n.name]) Q E s:=by
 have e:=G5 X.K (Ia d) n
 have h:∀tk,r=.bool ((Ia d).is n)→Q (.bool ((Ia d).is n)) {s with toks:=tk}:=fun tk z=>h tk _ z
 cases rp with
 |non=>cases hd;exact jK I rx .non e fun tk=>h tk rfl
 |bl b=>cases hd;exact jK I rx (.bl b) e fun tk=>h tk rfl
 |int i=>cases hd;exact jK I rx (.int i) e fun tk=>h tk rfl
 |str y=>cases hd;exact jK I rx (.str y) e fun tk=>h tk rfl
 |lst h1 _=>
  cases hd
  cases rx
  obtain⟨its,rv,⟨o,n',e1,c,_,d⟩,_⟩:=I.list h1
  exact kia_one kitx_list I.kIn ⟨_,e1,c⟩ e (fun z=>nomatch z) fun tk=>h tk rfl
 |tup h1 _=>
  cases hd
  cases rx
  obtain⟨its,rv,⟨o,e1,c,n',d⟩,_⟩:=I.tuple h1
  exact kia_one PySem.W.kitx_tuple I.kIn ⟨_,e1,c⟩ e (fun z=>nomatch z) fun tk=>h tk rfl
 |dct h1 hk=>
  cases rx
  obtain⟨_,_,vs,_,ob,es,ep,e1,c,_⟩:=G3 I.hok h1
  refine kia_one kitx_dict I.kIn ⟨_,e1,c.1⟩ e (fun z=>nomatch z) fun tk=>h tk ?_
  cases hk with
  |nil=>cases hd;rfl
  | @cons k x us d kvs a b=>cases k <;> (cases hd;rfl)
 |exc h1 h2=>cases hd
theorem xJ(n:Ty):CallR X (.builtin "isinstance") (fun xs H Q=>∃x d r,xs=[x,.ty n.name]∧Rp X.K H x d∧i0 n d=some r∧∀b,r=.bool b→Q (.bl b) H):=by
 intro pins s σ H xs us Q I r h
 obtain⟨x,d,r',rfl,rp,hd,q⟩:=h
 obtain⟨u,w',rfl,ru,rw'⟩:=r.two
 cases(show w'=Value.type n.name from rw')
 exact xI I ru rp hd fun tk b z=>⟨.bl _,H,I.tok _,rfl,q b z⟩
theorem ie(n:Ty) (hg:Gl X "isinstance") (hm:X.mg "isinstance"=none) (ha:EX X e m1 f)  (hgx:Gl X x) (hmx:X.mg x=none) (hbx:bootBuiltins x=some (.type n.name)) (hnx:x≠"__name__":=by decide) (hdx:(x == ("__debug__":Str))=false:=by decide)
  (he:starEach [e,.Name x p2] X.env=(false,eval e X.env)::starEach [.Name x p2] X.env:=by rfl) (he2:starEach [.Name x p2] X.env=[(false,eval (.Name x p2) X.env)]:=by rfl) (hpl:(backTo pos (starEach [.Name x p2] X.env)).any (·.1)=false:=by rfl):
  EX X (.Call (.Name "isinstance" p) [e,.Name x p2] [] pos) m1 (iR (i0 n) f):=by
 have h2:PE X (.Name x p2) (tC (.ty n.name)):=vM (v:=.ty n.name) hgx hmx hbx rfl hnx hdx
 refine bv (gX (xJ n) hg hm PyProof.Rows.boot_isinstance (cP ha (cP h2 eJ he2) he) (by decide) (by decide) he hpl) fun σ H Q z=>?_
 obtain⟨B,E,xs,Xs,res,E',fr,cl,e,q⟩:=z
 obtain⟨⟨s,E1⟩,e1,e⟩:=Za.mp e
 obtain⟨d1,e2,e⟩:=Za.mp e
 obtain⟨d2,e3,e⟩:=Zab.mp e
 cases e
 refine⟨B,E,xs,Xs,s,E1,fr,cl,e1,fun v1 H1 ⟨F,A,fr1⟩=>?_⟩
 obtain⟨A',fr2⟩:=fr1.pop
 exact⟨v1,d1,d2,rfl,(fr1.look0 e2).1,e3,fun b z=>q _ _ ⟨F,A',fr2.push ⟨rfl,_,rfl,z▸ .bl b⟩⟩⟩
end
end PL
namespace PL
open PySem L2 Nh
def rG(K:Frag)(H H':Hp)(v:V):Sl→Prop
 |.sh d=>Rp K (tups H') v d
 |.ow ds=>∃l vs,v=.ref l∧H l=none∧H' l=some (.lst vs)∧RpA K (tups H') vs ds
 |.tx ps=>∃t vs A,v=.ref t∧tups H' t=some (.tup vs)∧A.Nodup∧(∀a∈A,H a=none)∧PtsOk K (tups H') H' vs ps A
 |.od kvs=>∃l us A,v=.ref l∧(l::A).Nodup∧(∀a∈l::A,H a=none)∧H' l=some (.dK us)∧DlOk K (tups H') H' us kvs A
 |.br d=>Rp K H' v d
 |_=>False
def gY(K:Frag)(c:List PyData→Option Sl):Sp:=fun vs H Q _=>∃ds r,c ds=some r∧RpA K H vs ds∧∀v H',Same H H'→rG K H H' v r→Q v H'
section
variable {K:Frag} {B F:Hp} {A N:List Addr} {σ:mD} {H H':Hp} {E:List Sl} {xs:List V} {Xs:List Sl} {v:V} {s:Sl}
theorem FrF.growN(h:FrF K B F A σ H E xs Xs)(g:Same H H')(hN:∀a∈N,H a=none∧((∃us,H' a=some (.lst us))∨∃us,H' a=some (.dK us))):FrF K B (fun b=>if b∈N then none else if b∈A then none else H' b) A σ H' E xs Xs:=by
 have h1:=h.grow g
 have nF:∀b o,F b=some o→b∉N:=fun b o e hb=>by
  have:=h.fh.free (hN b hb).1
  rw[this]at e;cases e
 have FF:Same F (fun b=>if b∈N then none else if b∈A then none else H' b):=fun b o e=>by
  have nA:b∉A:=fun hb=>by rw[h.fr b hb]at e;cases e
  show(if b∈N then none else if b∈A then none else H' b)=some o
  rw[if_neg (nF b o e),if_neg nA]
  exact g _ _ (h.fh _ _ e)
 have hA:∀b∈A,H' b=H b:=fun b hb=>by
  rcases h.mutA b hb with⟨_,z⟩ |⟨_,z⟩ <;> rw[z,g _ _ z]
 refine⟨h.bf.trans FF,fun b o e=>?_,fun b o e=>?_,h.sl.mono fun o s C _ hC q=>q.stay FF (fun b hb=>hA b (hC b hb)) fun _=>g,h.nd,fun a ha=>?_,h.len,h.pl⟩
 ·by_cases hb:b∈N
  ·rw[if_pos hb]at e;cases e
  ·rw[if_neg hb]at e;exact h1.fh _ _ e
 ·show(if b∈N then none else if b∈A then none else H' b)=some o
  by_cases hb:b∈N
  ·obtain⟨e1,e2⟩:=Option.filter_eq_some_iff.mp e
   rcases(hN b hb).2 with⟨us,z⟩ |⟨us,z⟩ <;> rw[z]at e1 <;> cases e1 <;> cases e2
  ·rw[if_neg hb];exact h1.tf _ _ e
 ·show(if a∈N then none else if a∈A then none else H' a)=none
  by_cases hb:a∈N
  ·rw[if_pos hb]
  ·rw[if_neg hb,if_pos ha]
theorem FrF.pushR(h:FrF K B F A σ H E xs Xs)(q:SlOk K F H σ (some v) s N)(nd:N.Nodup)(dj:∀a∈N,a∉A)(fr:∀a∈N,F a=none):FrF K B F (N++A) σ H E (v::xs) (s::Xs):=
 ⟨h.bf,h.fh,h.tf,.cons q h.sl,List.nodup_append.mpr ⟨nd,h.nd,fun a ha b hb e=>dj a ha (e▸hb)⟩,fun a ha=>(Zaf.mp ha).elim (fr a) (h.fr a),by simp[h.len],h.pl⟩
theorem FrF.told(h:FrF K B F A σ H E xs Xs)(g:Same H H')(q:rG K H H' v s):Frm K B σ H' E (v::xs) (s::Xs):=by
 cases s with
 |sh d=>
  have h1:=h.grow g
  exact⟨_,_,h1.push ⟨rfl,v,rfl,Rp.same h1.tf q⟩⟩
 |ow ds=>
  obtain⟨l,vs,rfl,hl,hl',r⟩:=q
  have h1:=h.growN (N:=[l]) g fun a ha=>by rw[Zac.mp ha];exact⟨hl,.inl ⟨vs,hl'⟩⟩
  exact⟨_,_,h1.pushR (N:=[l]) ⟨l,vs,rfl,rfl,hl',r.same h1.tf⟩ (by simp) (fun a ha=>by rw[Zac.mp ha];exact h.newA hl) fun a ha=>if_pos ha⟩
 |tx ps=>
  obtain⟨t,vs,N,rfl,ht,nd,hN,r⟩:=q
  have h1:=h.growN (N:=N) g fun a ha=>⟨hN a ha,.inl (r.some a ha)⟩
  exact⟨_,_,h1.pushR (N:=N) ⟨t,vs,rfl,h1.tf _ _ ht,r.stay h1.tf fun _ _=>rfl⟩ nd (fun a ha=>h.newA (hN a ha)) fun a ha=>if_pos ha⟩
 |no=>exact False.elim q
 |od kvs=>
  obtain⟨l,us,N,rfl,nd,hN,hl,r⟩:=q
  have h1:=h.growN (N:=l::N) g fun a ha=>⟨hN a ha,(Zai.mp ha).elim (fun z=>.inr ⟨us,z▸hl⟩) fun z=>.inl (r.some a z)⟩
  exact⟨_,_,h1.pushR (N:=l::N) ⟨l,us,N,rfl,rfl,hl,r.stay h1.tf fun _ _=>rfl⟩ nd (fun a ha=>h.newA (hN a ha)) fun a ha=>if_pos ha⟩
 |al i=>exact False.elim q
 |br d=>
  have h1:=h.grow g
  exact⟨_,_,h1.push ⟨rfl,v,rfl,q⟩⟩
end
def aj(c:List PyData→Option Sl)(g:lM):bj:=fun E=>(g E).bind fun a=>(fT a.2 a.1).bind fun ds=>(c ds).map fun r=>(r,a.2)
theorem Fo{c:List PyData→Option Sl}{es:List Expr}{g:lM}(D:Own X.prog X.w X.K X.mg X.base k x ps (gY X.K c))(hr:Room k X.A)(hg:Gl X x)(ha:AX X (e::es) m g)
  (hdb:(x == ("__debug__":Str))=false:=by decide) (he:starEach (e::es) X.env=(false,eval e X.env)::starEach es X.env:=by rfl) (hpl:(backTo pos (starEach es X.env)).any (·.1)=false:=by rfl):
  EX X (.Call (.Name x p) (e::es) [] pos) m (aj c g):=by
 refine bv (EY D hr hg ha hdb he hpl) fun σ H Q z=>?_
 obtain⟨B,E,xs,Xs,res,E',fr,cl,e,q⟩:=z
 obtain⟨⟨rs,E1⟩,e1,e⟩:=Za.mp e
 obtain⟨ds,e2,e⟩:=Za.mp e
 obtain⟨r,e3,e⟩:=Zab.mp e
 cases e
 refine⟨B,E,xs,Xs,rs,E1,fr,cl,e1,fun vs H1 hl ⟨F,A,fr1⟩=>?_⟩
 obtain⟨r1,A',fr2⟩:=fr1.looks hl e2
 exact⟨ds,res,e3,by rw[tL];exact r1,fun v H' g q'=>q v H' (fr2.told g q')⟩
def k8(i:Nat)(f:bj):bj:=fun E=>match E[i]? with
 |some (.ow _)=>(f E).bind fun a=>(frz a.2 a.1).bind fun b=>match b.2[i]? with
  |some (.ow ds)=>if ds.length < 1000000 then some (.sh .none,b.2.set i (.ow (ds++[b.1])))else none
  |_=>none
 |_=>none
section
variable {X:Cx} {e:Expr} {m1:Bool} {f:bj} {x:Str} {p apos cpos:Pos}
theorem pz(i:Nat) (he:EX X e m1 f) (hN:X.N[i]? =some x:=by rfl) (hv:Eo X.env.scope x:=by first |exact Or.inl rfl |exact Or.inr (Or.inl rfl) |exact Or.inr (Or.inr rfl)) (hd:(x == ("__debug__":Str))=false:=by decide) (hcd:(x == ("__classdict__":Str))=false:=by decide)
  (hs:starEach [e] X.env=[(false,eval e X.env)]:=by rfl) (hbase:attributeBase (.Name x p) "append" X.env (eval (.Name x p) X.env)=eval (.Name x p) X.env:=by rfl)
  (hfew:((backTo cpos (starEach [e] X.env)).all (fun x=> !x.1)&&(backToKw cpos (keywordEach [] X.env)).all (fun x=>x.1.isSome)
   &&decide (([e]:List Expr).length+([]:List Keyword).length+(if ([]:List Keyword).isEmpty then 0 else 1) < 30))=true:=by rfl) (hline:(apos.endLine == cpos.line)=true:=by rfl):
  EX X (.Call (.Attribute (.Name x p) "append" apos) [e] [] cpos) true (k8 i f):=by
 refine bv (zW PySem.F.plainAttrs_list PySem.F.slot_list_append PySem.F.type_list_append jL (p9 hN hv hd hcd) (cP he eJ hs) hbase hfew hline hs rfl) fun σ H Q z=>?_
 obtain⟨B,E,xs,Xs,res,E',⟨F,A,fr⟩,cl,e,q⟩:=z
 unfold k8 at e
 split at e
 ·rename_i ds0 ei
  obtain⟨⟨s,E1⟩,e1,e⟩:=Za.mp e
  obtain⟨⟨d,E2⟩,e2,e⟩:=Za.mp e
  simp only at e
  split at e
  ·rename_i ds ei2
   split at e
   ·rename_i hl
    cases e
    obtain⟨o,A1,eo,l,vs,rfl,rfl,hl0,_⟩:=fr.var ei
    refine⟨_,eo,.inl ⟨rfl,_,SqL.of hl0⟩,B,E,xs,Xs,s,E1,⟨F,A,fr⟩,fun _=>cl rfl,e1,fun v H1 ⟨F1,A1,fr1⟩=>?_⟩
    obtain⟨F2,A2,fr2⟩:=fr1.frz0 e2
    obtain⟨v',A3,ev,rfl,w,ew,rv⟩:=fr2.ext (k:=0) rfl
    cases ev;cases ew
    obtain⟨A4,fr3⟩:=fr2.pop
    obtain⟨l',vs',eo',hl',r',put⟩:=fr3.mut ei2 (cl rfl)
    rw[eo]at eo'
    cases eo'
    have ll:=r'.len
    have fr4:=put (vs'++[v]) (ds++[d]) (r'.snoc rv)
    exact⟨l,vs',v,rfl,rfl,hl',v_ (by omega),q _ _ ⟨_,_,fr4.push ⟨rfl,_,rfl,.non⟩⟩⟩
   ·cases e
  ·cases e
 ·cases e
end
def pA(s:Sl):Sl:=match s.val with
 |some d=>.sh d
 |none=>.no
def frzAll(E:List Sl):List Sl:=E.map pA
def settle(E:List Sl):Sl→Option (Sl×List Sl)
 |.al i=>(frz E (.al i)).map fun a=>(.sh a.1,a.2)
 |.br d=>if dP d then some (.sh d,E)else some (.sh d,frzAll E)
 |s=>some (s,E)
def a9(g h:cZ):cZ:=fun E=>(g E).bind fun a=>match a.2 with
 |.nx=>h a.1
 |fl=>some (a.1,fl)
def bh:cZ:=fun E=>some (E,.nx)
def gh(f:bj):cZ:=fun E=>(f E).map fun a=>(a.2,.nx)
def bc(f:bj):cZ:=fun E=>(f E).bind fun a=>match a.1 with
 |.al i=>(a.2[i]?).map fun s=>(a.2.set i .no,.rt s)
 |s=>some (a.2,.rt s)
def cg(c:iT)(g h:cZ):cZ:=fun E=>(c E).bind fun a=>if a.1 then g a.2 else h a.2
def aP(i:Nat)(f:bj):cZ:=fun E=>(f E).bind fun a=>(settle a.2 a.1).bind fun b=>if i < b.2.length then some (b.2.set i b.1,.nx)else none
section
variable {K:Frag} {B F:Hp} {A:List Addr} {σ:mD} {H:Hp} {E E':List Sl} {xs:List V} {Xs:List Sl} {v:V} {s s':Sl} {d:PyData}
theorem FrF.frzAll(h:FrF K B F A σ H E xs Xs)(hX:Xs=[]):FrF K B H [] σ H (PL.frzAll E) [] []:=by
 subst hX
 have hx:xs=[]:=by simpa using h.len
 subst hx
 refine⟨h.bf.trans h.fh,Same.refl _,jO H,?_,List.nodup_nil,fun a ha=>(by cases ha),rfl,fun s hs=>?_⟩
 ·have key:∀{os:List (Option V)} {ss:List Sl} {C:List Addr},SAll (SlOk K F H σ) os ss C→SAll (SlOk K H H σ) os (PL.frzAll ss) []:=fun {os ss C} r=>by
   induction r with
   |nil=>exact .nil
   |cons q _ ih=>
    refine .cons (A:=[]) ?_ ih
    unfold pA
    split
    ·rename_i d e
     obtain⟨v,rfl,r,_⟩:=q.val h.fh e
     exact⟨rfl,v,rfl,r⟩
    ·exact rfl
  exact key h.sl
 ·obtain⟨t,_,rfl⟩:=Zaz.mp hs
  unfold pA
  split <;> rfl
theorem FrF.settle(h:FrF K B F A σ H E (v::xs) (s::Xs))(hX:Xs=[])(q:PL.settle E s=some (s',E')):s'.isAl=false∧Frm K B σ H E' (v::xs) (s'::Xs):=by
 cases s with
 |al i=>
  obtain⟨⟨d,E2⟩,e,z⟩:=Zab.mp (show(frz E (.al i)).map (fun a=>(Sl.sh a.1,a.2))=some (s',E')from q)
  cases z
  obtain⟨F',A',h'⟩:=h.frz0 e
  exact⟨rfl,F',A',h'⟩
 |br d=>
  have r:=(h.look0 (d:=d) rfl).1
  obtain⟨A',h'⟩:=h.pop
  simp only[PL.settle]at q
  split at q
  ·rename_i hf
   cases q
   exact⟨rfl,F,A',h'.push ⟨rfl,v,rfl,h.cold r hf⟩⟩
  ·cases q
   have h2:=h'.frzAll hX
   have hl:=h'.len
   subst hX
   have hx:xs=[]:=by simpa using hl
   subst hx
   exact⟨rfl,H,[],h2.push ⟨rfl,v,rfl,r⟩⟩
 |no=>cases q;exact⟨rfl,F,A,h⟩
 |sh d=>cases q;exact⟨rfl,F,A,h⟩
 |ow ds=>cases q;exact⟨rfl,F,A,h⟩
 |od kvs=>cases q;exact⟨rfl,F,A,h⟩
 |tx ps=>cases q;exact⟨rfl,F,A,h⟩
theorem FrF.move{i:Nat}(h:FrF K B F A σ H E (v::xs) (.al i::Xs))(e:E[i]? =some s):Frm K B σ H (E.set i .no) (v::xs) (s::Xs):=by
 obtain⟨v',A1,ev,rfl,w,ew,hw⟩:=h.ext (k:=0) rfl
 cases ev;cases ew
 obtain⟨A',h'⟩:=h.pop
 obtain⟨o,A0,A1,A2,eA,eo,hp,put⟩:=h'.sl.at (k:=Xs.length+i) (s:=s) (by rw[BT (by omega)];simpa using e)
 have z:=put (SlOk K F H σ) o .no [] rfl fun _ _ _ _ _ q=>q
 have e3:(Xs++E).set (Xs.length+i) .no=Xs++E.set i .no:=by
  rw[List.set_append_right _ _ (by omega),BU]
 have e2:(List.map some xs++σ).set (Xs.length+i) o=List.map some xs++σ:=List.ext_getElem? fun j=>by
  by_cases hj:Xs.length+i=j
  ·subst hj
   rw[List.getElem?_set_self',eo];rfl
  ·rw[List.getElem?_set_ne hj]
 rw[e2,e3]at z
 rw[BT (by rw[fw,h'.len];omega),fw,h'.len,BU,hw]at eo
 cases eo
 have nd:=h'.nd
 rw[eA]at nd
 refine⟨F,A1++(A0++([]++A2)),h.bf,h.fh,h.tf,.cons hp z,?_,fun a ha=>h'.fr a ?_,h.len,fun s' hs=>?_⟩
 ·have p:(A1++(A0++([]++A2))).Perm (A0++(A1++A2)):=by
   rw[List.nil_append,←List.append_assoc,←List.append_assoc]
   exact List.Perm.append_right _ List.perm_append_comm
  exact p.nodup_iff.mpr nd
 ·rw[eA]
  simp only[Zaf,Z8]at ha ⊢
  rcases ha with z |z |z
  ·exact .inr (.inl z)
  ·exact .inl z
  ·exact .inr (.inr z)
 ·rcases List.mem_or_eq_of_mem_set hs with hs |hs
  ·exact h.pl s' hs
  ·subst hs;rfl
end
section
variable {X:Cx} {st:Stmt} {dO a b:List Stmt} {g h:cZ} {e c:Expr} {m:Bool} {f:bj} {t:iT} {pos:Pos}
theorem aX:q_ X [] bh:=vZ B5 fun D σ H z=>by
 obtain⟨B,E,xs,Xs,E',fl,fr,cl,e,q⟩:=z
 cases e
 exact q _ _ fr
theorem ar(h1:SX X st g):q_ X [st] g:=B6 h1
theorem Fp{K:Frag}(z:rs K (a9 g h) D σ H):rs K g {D with nx:=rs K h D} σ H:=by
 obtain⟨B,E,xs,Xs,E',fl,fr,cl,e,q⟩:=z
 obtain⟨⟨E1,f1⟩,e1,e⟩:=Za.mp e
 refine⟨B,E,xs,Xs,E1,f1,fr,cl,e1,?_⟩
 cases f1 with
 |nx=>exact fun σ' H' fr'=>⟨B,E1,xs,Xs,E',fl,fr',cl,e,q⟩
 |bk=>cases e;exact q
 |ct=>cases e;exact q
 |rt r=>cases e;exact q
theorem ak(h1:SX X st g)(h2:q_ X dO h):q_ X (st::dO) (a9 g h):=vZ (zG h1 h2) fun D σ H z=>Fp z
theorem jQ(he:EX X e m f)(hs:swapsWith e none pos.line X.env=pure false:=by rfl):SX X (.Expr e pos) (gh f):=km (B7 he hs) fun D σ H z=>by
 obtain⟨B,E,xs,Xs,E',fl,fr,cl,e,q⟩:=z
 obtain⟨⟨s,E1⟩,e1,e⟩:=Zab.mp e
 cases e
 refine⟨B,E,xs,Xs,s,E1,fr,fun _=>Calm.nil cl,e1,fun v H1 ⟨F,A,fr1⟩=>?_⟩
 obtain⟨A',fr2⟩:=fr1.pop
 exact q _ _ ⟨F,A',fr2⟩
theorem aJ(he:EX X e m f):SX X (.Return (some e) pos) (bc f):=km (Ey he) fun D σ H z=>by
 obtain⟨B,E,xs,Xs,E',fl,fr,cl,e,q⟩:=z
 obtain⟨⟨s,E1⟩,e1,e⟩:=Za.mp e
 refine⟨B,E,xs,Xs,s,E1,fr,fun _=>Calm.nil cl,e1,fun v H1 ⟨F,A,fr1⟩=>?_⟩
 simp only at e
 split at e
 ·obtain⟨s',es,e⟩:=Zab.mp e
  cases e
  exact q σ _ _ (fr1.move es)
 ·cases e
  exact q σ _ _ ⟨F,A,fr1⟩
theorem cy(hc:TX X c m t)(ha:q_ X a g)(hb:q_ X b h):SX X (.If c a b pos) (cg t g h):=km (GD hc ha hb) fun D σ H z=>by
 obtain⟨B,E,xs,Xs,E',fl,fr,cl,e,q⟩:=z
 obtain⟨⟨b1,E1⟩,e1,e⟩:=Za.mp e
 refine⟨B,E,xs,Xs,b1,E1,fr,fun _=>Calm.nil cl,e1,fun H1 fr1=>?_⟩
 cases b1 with
 |true=>exact(if_pos rfl).mpr ⟨B,E1,xs,Xs,E',fl,fr1,cl,e,q⟩
 |false=>exact(if_neg (by decide)).mpr ⟨B,E1,xs,Xs,E',fl,fr1,cl,e,q⟩
theorem aO(i:Nat)(hN:X.N.Nodup)(he:EX X e m f)(hi:X.N[i]? =some x:=by rfl)(hx:Ep X.env.scope x:=by first |exact Or.inl rfl |exact Or.inr rfl)(hs:swapsWith e (some (.Name x pos')) pos.line X.env=pure false:=by rfl)(hf:X.fn x=true∨X.env.scope.names.lookup x=some .local:=by first |exact .inl rfl |exact .inr rfl |assumption):
  SX X (.Assign [.Name x pos'] e pos) (aP i f):=km (EA hN hi hx he hs hf) fun D σ H z=>by
 obtain⟨B,E,xs,Xs,E',fl,fr,cl,e,q⟩:=z
 obtain⟨⟨s,E1⟩,e1,e⟩:=Za.mp e
 obtain⟨⟨s',E2⟩,e2,e⟩:=Za.mp e
 refine⟨B,E,xs,Xs,s,E1,fr,fun _=>Calm.nil cl,e1,fun v H1 ⟨F,A,fr1⟩=>?_⟩
 obtain⟨c1,F2,A2,fr2⟩:=fr1.settle cl e2
 simp only at e
 split at e
 ·rename_i hi
  cases e
  obtain⟨A3,fr3⟩:=fr2.store c1 (Still.nil cl) hi
  exact q _ _ ⟨F2,A3,fr3⟩
 ·cases e
end
end PL
namespace PL
open PySem L2 Nh
abbrev gA:=PyData→List Sl→Option (List Sl)
def rg(K:Frag)(h:gA):TG:=fun v σ H Q=>∃B E xs Xs d E',Frm K B σ H E (v::xs) (.sh d::Xs)∧Still Xs∧h d E=some E'∧∀σ' H',Frm K B σ' H' E' xs Xs→Q σ' H'
def GX(X:Cx)(e:Expr)(h:gA):Prop:=PG X e (rg X.K h)
def bH(i:Nat):gA:=fun d E=>if i < E.length then some (E.set i (.sh d))else none
section
variable {X:Cx}
theorem Fq{t t':TG}(h:PG X e t)(k:∀v σ H Q,t' v σ H Q→t v σ H Q):PG X e t':=fun pins s σ H v u Q I r q=>h pins s σ H v u Q I r (k v σ H Q q)
theorem bN(i:Nat)(hN:X.N.Nodup)(hi:X.N[i]? =some x:=by rfl)(hx:Ep X.env.scope x:=by first |exact Or.inl rfl |exact Or.inr rfl)(hf:X.fn x=true∨X.env.scope.names.lookup x=some .local:=by first |exact .inl rfl |exact .inr rfl |assumption):GX X (.Name x pos) (bH i):=Fq (vN hN hi hx hf) fun v σ H Q z=>by
 obtain⟨B,E,xs,Xs,d,E',⟨F,A,fr⟩,cl,e,q⟩:=z
 unfold bH at e
 split at e
 ·rename_i hi
  cases e
  obtain⟨A',fr'⟩:=fr.store rfl cl hi
  exact q _ _ ⟨F,A',fr'⟩
 ·cases e
end
def tW(K:Frag)(B0:Hp)(J:It)(ds:List PyData):Prop:=∀{B F:Hp} {A:List Addr} {σ:mD} {H:Hp} {E:List Sl} {xs:List V} {Xs:List Sl} (i:Nat),Same B0 B→FrF K B F A σ H E xs Xs→
 (∀d,ds[i]? =some d→J.go i H∧∀x H2,J.yld i H x H2→Frm K B σ H2 E (x::xs) (.sh d::Xs))∧(i=ds.length→J.stop i H)
def ri(K:Frag)(m:Bool)(f:jP):TI:=fun σ H R=>∃B E xs Xs ds E',Frm K B σ H E xs Xs∧(m=true→Calm Xs)∧f E=some (ds,E')∧∀B' J H',Same B B'→Frm K B' σ H' E' xs Xs→tW K B' J ds→R J H'
def IX(X:Cx)(tg e:Expr)(m:Bool)(f:jP):Prop:=PI X tg e (ri X.K m f)
theorem FrF.base{K:Frag}{B:Hp}{A:List Addr}(h:FrF K B' F A σ H E xs Xs)(s:Same B B'):FrF K B F A σ H E xs Xs:=⟨s.trans h.bf,h.fh,h.tf,h.sl,h.nd,h.fr,h.len,h.pl⟩
theorem Frm.base{K:Frag}{B:Hp}(h:Frm K B' σ H E xs Xs)(s:Same B B'):Frm K B σ H E xs Xs:=let ⟨F,A,h⟩:=h;⟨F,A,h.base s⟩
theorem FrF.raise{K:Frag}{B:Hp}{A:List Addr}(h:FrF K B F A σ H E xs Xs):FrF K F F A σ H E xs Xs:=⟨Same.refl _,h.fh,h.tf,h.sl,h.nd,h.fr,h.len,h.pl⟩
def oX(lo:Int)(n:Nat):List PyData:=(List.range n).map fun(k:Nat)=>.int (lo+(k:Int))
def nO(g:lM):jP:=fun E=>(g E).bind fun a=>match fT a.2 a.1 with
 |some [.int j]=>if -1000000≤j∧j≤1000000 then some (oX 0 j.toNat,a.2)else none
 |_=>none
section
variable {X:Cx} {tg e e2:Expr} {m:Bool} {f:bj} {g:lM} {p pos:Pos} {K:Frag} {B:Hp}
theorem Ao{t t':TI}(h:PI X tg e t)(k:∀σ H Q,t' σ H Q→t σ H Q):PI X tg e t':=fun pins s σ H R I q=>h pins s σ H R I (k σ H R q)
theorem xK(h:SqL K B a vs)(r:RpA K B vs ds):tW K B (Ir K a) ds:=fun {B' F A σ H E xs Xs} i sB fr=>by
 have hH:=fr.fh.seq (fr.bf.seq (sB.seq h))
 refine⟨fun d ed=>?_,fun e=>⟨vs,hH,by rw[e,r.len];exact eD _⟩⟩
 obtain⟨v,ev,rv⟩:=r.get ed
 refine⟨⟨vs,v,hH,ev⟩,fun x H2 ⟨e2,y⟩=>?_⟩
 subst e2
 have:=y vs hH
 rw[ev]at this
 cases this
 exact⟨F,A,fr.push ⟨rfl,_,rfl,rv.same (sB.trans fr.bf)⟩⟩
theorem nP:tW K B (Gp lo n) (oX lo n):=fun {B' F A σ H E xs Xs} i sB fr=>by
 have hl:(oX lo n).length=n:=by simp[oX]
 refine⟨fun d ed=>?_,fun e=>?_⟩
 ·have hi:i < n:=by have:=(Zar.mp ed).1;omega
  refine⟨hi,fun x H2 ⟨e2,y⟩=>?_⟩
  subst e2 y
  have:d=.int (lo+i):=by
   unfold oX at ed
   rw[wT,List.getElem?_range hi]at ed
   exact(Option.some.inj ed).symm
  subst this
  exact⟨F,A,fr.push ⟨rfl,_,rfl,.int _⟩⟩
 ·show n≤i
  omega
theorem xL(hg:Gl X "range") (hm:X.mg "range"=none) (ha:AX X [e] m g) (hs:starEach [e] X.env=[(false,eval e X.env)]:=by rfl):IX X tg (.Call (.Name "range" p) [e] [] pos) m (nO g):=Ao (wX hg hm ha hs) fun σ H R z=>by
 obtain⟨B,E,xs,Xs,ds,E',fr,cl,e,q⟩:=z
 obtain⟨⟨rs,E1⟩,e1,e⟩:=Za.mp e
 refine⟨B,E,xs,Xs,rs,E1,fr,cl,e1,fun vs H1 hl ⟨F,A,fr1⟩=>?_⟩
 simp only at e
 split at e
 ·rename_i j ld
  split at e
  ·rename_i hj
   cases e
   obtain⟨r,A',fr2⟩:=fr1.looks hl ld
   obtain⟨v,rfl,r'⟩:=r.one
   cases r'
   exact⟨j,rfl,by omega,by omega,q B _ _ (Same.refl _) ⟨F,A',fr2⟩ nP⟩
  ·cases e
 ·cases e
end
def dk(tg:gA)(body:cZ):List PyData→cZ
 |[],E=>some (E,.nx)
 |d::ds,E=>((tg d E).bind body).bind fun a=>match a.2 with
  |.nx=>dk tg body ds a.1
  |.ct=>dk tg body ds a.1
  |.bk=>some (a.1,.nx)
  |.rt r=>some (a.1,.rt r)
def i7(it:jP)(tg:gA)(body:cZ):cZ:=fun E=>(it E).bind fun a=>dk tg body a.1 a.2
theorem i8{tg:Expr}{g:gA}{b:cZ}(hp:PassesOwn (model X.prog X.w) X.A X.env X.xe)(hc:X.calm=true)(hi:IX X tg iter m it)(hg:GX X tg g)(hb:q_ X body b)
  (hs:∀x,foldedSetIterable iter X.env x=pure x:=by intro _;rfl):SX X (.For tg iter body [] pos) (i7 it g b):=km (zK hp hc hi hg hb hs) fun D σ H z=>by
 obtain⟨B,E,xs,Xs,E',fl,fr,cl,e,q⟩:=z
 obtain⟨⟨ds,E1⟩,e1,e⟩:=Za.mp e
 refine⟨B,E,xs,Xs,ds,E1,fr,fun _=>Calm.nil cl,e1,fun B' J H1 hB fr1 ok=>?_⟩
 refine⟨fun i mm σ' H'=>mm=ds.length - i∧i≤ds.length∧∃Ei,dk g b (ds.drop i) Ei=some (E',fl)∧Frm X.K B' σ' H' Ei xs Xs,⟨ds.length,by simp,zz9 _,E1,by simpa using e,fr1⟩,?_⟩
 rintro i mm σ' H' ⟨rfl,hi,Ei,ei,F,A,fri⟩
 obtain⟨go,stop⟩:=ok i (Same.refl _) fri
 by_cases hlt:i < ds.length
 ·obtain⟨d,ed⟩:∃d,ds[i]? =some d:=⟨ds[i],oU hlt⟩
  obtain⟨g1,yl⟩:=go d ed
  have edr:ds.drop i=d::ds.drop (i+1):=by
   rw[List.drop_eq_getElem_cons hlt]
   congr 1
   exact Option.some.inj ((oU hlt).symm.trans ed)
  rw[edr]at ei
  obtain⟨⟨E2,f2⟩,e2,ei⟩:=Za.mp ei
  obtain⟨E3,e3,e2⟩:=Za.mp e2
  refine .inr ⟨g1,fun σ2 H2=>∃Ej,dk g b (ds.drop (i+1)) Ej=some (E',fl)∧Frm X.K B' σ2 H2 Ej xs Xs,fun σ2 H2 ⟨Ej,ej,frj⟩=>⟨ds.length - (i+1),by omega,rfl,hlt,Ej,ej,frj⟩,fun x H2 y=>?_⟩
  refine⟨B',Ei,xs,Xs,d,E3,yl x H2 y,Still.nil cl,e3,fun σ3 H3 fr3=>?_⟩
  refine⟨B',E3,xs,Xs,E2,f2,fr3,cl,e2,?_⟩
  cases f2 with
  |nx=>exact fun σ4 H4 fr4=>⟨E2,ei,fr4⟩
  |ct=>exact fun σ4 H4 fr4=>⟨E2,ei,fr4⟩
  |bk=>cases ei;exact fun σ4 H4 fr4=>q _ _ (fr4.base hB)
  |rt r=>cases ei;exact fun σ4 v H4 fr4=>q _ _ _ (fr4.base hB)
 ·have e0:i=ds.length:=by omega
  refine .inl ⟨stop e0,?_⟩
  rw[e0,List.drop_length]at ei
  cases ei
  exact q _ _ (Frm.base ⟨F,A,fri⟩ hB)
def fU:Sl→Bool
 |.sh d=>dP d
 |.ow ds=>bR ds
 |.tx ps=>ps.all fun p=>match p with |.fl d=>dP d |.ol ds=>bR ds
 |.od kvs=>kvs.all fun p=>bR p.2
 |_=>false
def cI(n:Nat)(ds:List PyData):List Sl:=ds.map .sh++List.replicate (n - ds.length) .no
def fA(r:Sl):Option Sl:=if fU r then some r else match r with
 |.sh d=>some (.br d)
 |.ow ds=>some (.br (.list ds))
 |.tx ps=>some (.br (.tuple (ps.map Pt.val)))
 |.br d=>some (if dP d then .sh d else .br d)
 |_=>none
def xM(n:Nat)(g:cZ):List PyData→Option Sl:=fun ds=>(g (cI n ds)).bind fun a=>match a.2 with
 |.rt r=>fA r
 |.nx=>some (.sh .none)
 |_=>none
section
variable {K:Frag} {B F:Hp} {A:List Addr} {σ:mD} {H:Hp} {E:List Sl} {v:V} {r:Sl}
theorem DlOk.cold(sF:Same F H):∀{us:List (iQ×V)} {kvs:List (iQ×List PyData)} {A:List Addr},(∀p∈kvs,bR p.2=true)→DlOk K F H us kvs A→DlOk K (tups H) H us kvs A
 |[],[],A,_,h=>h
 |p::us,q::kvs,A,c,h=>by
  obtain⟨l,vs,A',rfl,rfl,hl,hr,k⟩:=h
  exact⟨l,vs,A',rfl,rfl,hl,(hr.same sF).cold (c q (jJ ..)),DlOk.cold sF (fun p hp=>c p (gW _ hp)) k⟩
 |[],_::_,_,_,h=>False.elim h
 |_::_,[],_,_,h=>False.elim h
theorem PtsOk.cold{G:Hp}(sF:Same F H)(tG:∀{v:V} {d:PyData},Rp K F v d→dP d=true→Rp K G v d):∀{vs:List V} {ps:List Pt} {A:List Addr},(∀p∈ps,(match p with |.fl d=>dP d |.ol ds=>bR ds)=true)→PtsOk K F H vs ps A→PtsOk K G H vs ps A
 |[],[],A,_,h=>h
 |v::vs,.fl d::ps,A,c,h=>⟨tG h.1 (c (.fl d) (jJ ..)),PtsOk.cold sF tG (fun p hp=>c p (gW _ hp)) h.2⟩
 |v::vs,.ol ds::ps,A,c,h=>by
  obtain⟨l,us,A',rfl,rfl,hl,hr,q⟩:=h
  refine⟨l,us,A',rfl,rfl,hl,?_,q.cold sF tG fun p hp=>c p (gW _ hp)⟩
  have cd:bR ds=true:=c (.ol ds) (jJ ..)
  have key:∀{us:List V} {ds:List PyData},RpA K F us ds→bR ds=true→RpA K G us ds:=fun {us ds} r c=>by
   induction us generalizing ds with
   |nil=>cases r;exact .nil
   |cons u us ih=>
    cases r with
    |cons r1 r2=>
     simp only[bR,qZ]at c
     exact .cons (tG r1 c.1) (ih r2 c.2)
  exact key hr cd
 |[],_::_,_,_,h=>False.elim h
 |_::_,[],_,_,h=>False.elim h
theorem FrF.result(h:FrF K B F A σ H E [v] [r])(c:fU r=true):Same B H∧rG K B H v r:=by
 refine⟨h.bf.trans h.fh,?_⟩
 have nB:∀a,F a=none→B a=none:=fun a e=>h.bf.free e
 have cold:∀{v:V} {d:PyData},Rp K F v d→dP d=true→Rp K (tups H) v d:=fun r f=>(r.same h.fh).cold f
 obtain⟨v',A1,ev,hs⟩:=h.ext (k:=0) rfl
 cases ev
 obtain⟨o,C0,C1,C2,eA,eo,hp,_⟩:=h.sl.at (k:=0) (s:=r) rfl
 cases eo
 have sub:∀a∈C1,F a=none:=fun a ha=>h.fr a (by rw[eA];simp[ha])
 have nd:C1.Nodup:=by
  have:=h.nd
  rw[eA]at this
  exact(List.nodup_append.mp (List.nodup_append.mp this).2.1).1
 cases r with
 |sh d=>obtain⟨_,w,ew,r⟩:=hp;cases ew;exact cold r c
 |ow ds=>
  obtain⟨l,vs,el,rfl,hl,r⟩:=hp
  cases el
  exact⟨l,vs,rfl,nB l (sub l (by simp)),hl,(r.same h.fh).cold c⟩
 |tx ps=>
  obtain⟨t,vs,et,ht,r⟩:=hp
  cases et
  exact⟨t,vs,C1,rfl,kW (h.fh _ _ ht) rfl,nd,fun a ha=>nB a (sub a ha),r.cold h.fh cold (by simpa[fU,List.all_eq_true]using c)⟩
 |no=>cases c
 |od kvs=>
  obtain⟨l,us,A',el,rfl,hl,r⟩:=hp
  cases el
  exact⟨l,us,A',rfl,nd,fun a ha=>nB a (sub a ha),hl,r.cold h.fh (by simpa[fU,List.all_eq_true]using c)⟩
 |al i=>cases c
 |br d=>cases c
theorem FrF.resultO{r':Sl}(h:FrF K B F A σ H E [v] [r])(c:fA r=some r'):Same B H∧rG K B H v r':=by
 unfold fA at c
 split at c
 ·rename_i hc
  cases c
  exact h.result hc
 ·refine⟨h.bf.trans h.fh,?_⟩
  cases r with
  |sh d=>cases c;exact(h.look0 (d:=d) rfl).1
  |ow ds=>cases c;exact(h.look0 (d:=.list ds) rfl).1
  |tx ps=>cases c;exact(h.look0 (d:=.tuple (ps.map Pt.val)) rfl).1
  |br d=>
   have r:=(h.look0 (d:=d) rfl).1
   simp only at c
   split at c
   ·rename_i hf
    cases c
    exact r.cold hf
   ·cases c
    exact r
  |no=>cases c
  |od kvs=>cases c
  |al i=>cases c
theorem jR{N:List Str}(r:RpA K H vs ds)(hn:ds.length≤N.length):FrF K H H [] (L2.dE N vs) H (cI N.length ds) [] []:=by
 refine⟨Same.refl _,Same.refl _,jO H,?_,List.nodup_nil,fun a ha=>(by cases ha),rfl,?_⟩
 ·have l:=r.len
  unfold L2.dE cI
  rw[l]
  generalize N.length - ds.length=k
  have base:∀τ:mD,SAll (SlOk K H H τ) (List.replicate k none) (List.replicate k .no) []:=fun τ=>by
   induction k with
   |zero=>exact .nil
   |succ k ih=>exact .cons (A:=[]) rfl ih
  have key:∀(τ:mD) {us:List V} {es:List PyData},RpA K H us es→SAll (SlOk K H H τ) (us.map some++List.replicate k none) (es.map .sh++List.replicate k .no) []:=fun τ us es r=>by
   induction us generalizing es with
   |nil=>cases r;exact base τ
   |cons u us ih=>
    cases r with
    |cons r1 r2=>exact .cons (A:=[]) ⟨rfl,_,rfl,r1⟩ (ih _ r2)
  exact key _ r
 ·intro s hs
  unfold cI at hs
  rcases Zaf.mp hs with hs |hs
  ·obtain⟨d,_,rfl⟩:=Zaz.mp hs
   rfl
  ·rw[(List.mem_replicate.mp hs).2]
   rfl
end
def gB(k n:Nat)(g:cZ):List PyData→Option Sl:=fun ds=>if ds.length=k then xM n g ds else none
theorem gi{w:World}{K:Frag}{mg:Str→Option Value}{base:Heap}{N:List Str}{a:Nat}{g:cZ}(D:Def K mg x st ps)(S:FnScope N ps (ai st))(hpa:ps.length=a)(hNn:N.length=n)(hps:a≤n)
  (hbody:∀(f:Addr) (cdv:Value) (A:Around) (outer:List Env) (s:Shared) (H:Hp) (E:XK),Room k (A.deeper (PyProof.Rows.envOfC x (ai st) s.heap.objs.size f cdv))→
   q_ (gf nz P w K mg base N x (ai st) f cdv A outer s H E).nox (a6 st) g):Own P w K mg base (k+1) x ps (gY K (gB a n g)):=by
 subst hpa hNn
 refine D.own S (fun vs H Q E h=>?_) (fun f cdv A outer s H vs Q E hr h=>?_)
 ·obtain⟨ds,r,e,rp,_⟩:=h
  unfold gB at e
  split at e
  ·rename_i hl
   rw[rp.len];exact hl
  ·cases e
 obtain⟨ds,r,e,rp,q⟩:=h
 unfold gB at e
 split at e
 ·rename_i hl
  refine⟨_,hbody f cdv A outer s H E hr,?_⟩
  obtain⟨⟨E',fl⟩,e1,e⟩:=Za.mp e
  refine⟨H,cI N.length ds,[],[],E',fl,⟨H,[],jR rp (by omega)⟩,rfl,e1,?_⟩
  cases fl with
  |nx=>
   cases e
   rintro σ' H' ⟨F',A',fr'⟩
   exact q _ _ (fr'.bf.trans fr'.fh) .non
  |bk=>cases e
  |ct=>cases e
  |rt r'=>
   rintro σ' v H' ⟨F',A',fr'⟩
   obtain⟨s1,s2⟩:=fr'.resultO e
   exact q v H' s1 s2
 ·cases e
theorem pB{K:Frag}:∀ns:List Int,RpA K H (ns.map V.int) (ns.map PyData.int)
 |[]=>.nil
 |n::ns=>.cons (.int n) (pB ns)
theorem Fr{K:Frag}{ns:List Int}{c:List PyData→Option Sl}(e:c [.list (ns.map .int)]=some (.sh (.bool true)))(h:SqL K H a (ns.map V.int)):gY K c [.ref a] H (fun v _=>v=.bl true) fun _ _ _=>False:=
 ⟨_,_,e,.cons (.lst h (pB ns)) .nil,fun v H' _ r=>by
  have r':Rp K (tups H') v (.bool true):=r
  cases r'
  rfl⟩
end PL
variable {tg:PL.gA}
namespace PL
open PySem L2 Nh
def wb(E:List Sl):Option Nat→Sl
 |none=>.no
 |some j=>match (E[j]?).bind Sl.val with
  |some d=>.sh d
  |none=>.no
def i9(js:List (Option Nat))(E:List Sl):List Sl:=js.map (wb E)
def dl:iT:=fun E=>some (true,E)
def dF(tg:gA)(cond:iT)(elt:bj):List PyData→List Sl→Option (List PyData)
 |[],_=>some []
 |d::ds,E=>(tg d E).bind fun E1=>(cond E1).bind fun b=>if b.1 then (elt b.2).bind fun c=>(frz c.2 c.1).bind fun e=>(dF tg cond elt ds e.2).map fun r=>e.1::r else dF tg cond elt ds b.2
def c7(js:List (Option Nat))(it:jP)(tg:gA)(cond:iT)(elt:bj):bj:=fun E=>(it E).bind fun a=>(dF tg cond elt a.1 (i9 js a.2)).bind fun ds=>if bR ds&&decide (ds.length≤1000000)then some (.ow ds,a.2)else none
section
variable {X:Cx} {elt target iter:Expr} {ifs:List Expr} {scope sc:Scope} {cl:List (Str×Addr)} {N:List Str} {pos:Pos} {js:List (Option Nat)} {K:Frag}
theorem rH{B:Hp}{A:List Addr}(fr:FrF K B F A σ H E xs Xs)(js:List (Option Nat)):FrF K H H [] (slots js σ) H (i9 js E) [] []:=by
 refine⟨Same.refl _,Same.refl _,jO H,?_,List.nodup_nil,fun a ha=>(by cases ha),rfl,fun s hs=>?_⟩
 ·have key:∀(τ:mD) (ks:List (Option Nat)),SAll (SlOk K H H τ) (slots ks σ) (i9 ks E) []:=fun τ ks=>by
   induction ks with
   |nil=>exact .nil
   |cons j ks ih=>
    refine .cons (A:=[]) ?_ ih
    cases j with
    |none=>exact rfl
    |some j=>
     show SlOk K H H τ _ (match (E[j]?).bind Sl.val with |some d=>.sh d |none=>.no) []
     cases ej:E[j]? with
     |none=>exact rfl
     |some s=>
      cases ev:s.val with
      |none=>simp only[Z0,ev];exact rfl
      |some d=>
       simp only[Z0,ev]
       obtain⟨o,A1,eo,hs⟩:=fr.var ej
       obtain⟨v,rfl,r,_⟩:=hs.val fr.fh ev
       refine⟨rfl,v,?_,r⟩
       show(σ[j]?).join=some v
       rw[eo]
       rfl
  exact key _ js
 ·obtain⟨j,_,rfl⟩:=Zaz.mp hs
  cases j with
  |none=>rfl
  |some j=>
   simp only[wb]
   split <;> rfl
theorem xN{m2:Bool}{tt:TT}(htt:∀σ H Q,rt K m2 cond σ H Q→tt σ H Q){B:Hp}{A:List Addr}{H1:Hp}{rs:List PyData}{J:It}{Q:VK}
  (fr1:FrF K B F A σ H1 E1 xs Xs) (B2:Same B' H1) (ok:tW K B' J ds) (e2:dF tg cond el ds (i9 js E1)=some rs) (hc:bR rs=true∧rs.length≤1000000) (q:∀v H',Frm K B σ H' E1 (v::xs) (.ow rs::Xs)→Q v H') (l:Addr) (hl:H1 l=none):
  ∃W:Nat→Nat→mD→Hp→Prop,(∃m,W 0 m (slots js σ) (upd H1 l (.lst [])))∧
 ∀i m σ' H',W i m σ' H'→(J.stop i H'∧Q (.ref l) H')∨(J.go i H'∧∃N:mD→Hp→Prop,(∀σ' H',N σ' H'→∃m',m' < m∧W (i+1) m' σ' H')∧∀x H2,J.yld i H' x H2→rg K tg x σ' H2 fun σ3 H3=>tt σ3 H3 fun b H4=>
  if b=true then rd K m3 el σ3 H4 fun y H5=>∃ys,H5 l=some (.lst ys)∧ys.length < sizeLine∧N σ3 (upd H5 l (.lst (ys++[y])))else N σ3 H4):=by
 have fr0:=(rH fr1 js).newl (ds:=[]) .nil hl
 refine⟨fun i mm σ' H'=>mm=ds.length - i∧i≤ds.length∧∃Ei acc dO,dF tg cond el (ds.drop i) Ei=some dO∧rs=acc++dO∧Frm K H1 σ' H' Ei [.ref l] [.ow acc],⟨ds.length,by simp,zz9 _,_,[],rs,by simpa using e2,rfl,⟨_,_,fr0⟩⟩,?_⟩
 rintro i mm σ' H' ⟨rfl,hi,Ei,acc,dO,ei,er,F',A',fri⟩
 obtain⟨go,stop⟩:=ok i B2 fri
 by_cases hlt:i < ds.length
 ·obtain⟨d,ed⟩:∃d,ds[i]? =some d:=⟨ds[i],oU hlt⟩
  obtain⟨g1,yl⟩:=go d ed
  have edr:ds.drop i=d::ds.drop (i+1):=by
   rw[List.drop_eq_getElem_cons hlt]
   congr 1
   exact Option.some.inj ((oU hlt).symm.trans ed)
  rw[edr]at ei
  obtain⟨E3,e3,ei⟩:=Za.mp ei
  obtain⟨⟨b,E4⟩,e4,ei⟩:=Za.mp ei
  refine .inr ⟨g1,fun σ2 H2=>∃Ej acc dO,dF tg cond el (ds.drop (i+1)) Ej=some dO∧rs=acc++dO∧Frm K H1 σ2 H2 Ej [.ref l] [.ow acc],fun σ2 H2 ⟨Ej,ac,rt,ej,er,frj⟩=>⟨ds.length - (i+1),by omega,rfl,hlt,Ej,ac,rt,ej,er,frj⟩,fun x H2 y=>?_⟩
  have clm:Calm [Sl.ow acc]:=Calm.cons (fun s hs=>absurd hs (by simp)) rfl
  refine⟨H1,Ei,[.ref l],[.ow acc],d,E3,yl x H2 y,(fun s hs=>by rw[Zac.mp hs];rfl),e3,fun σ3 H3 fr3=>htt _ _ _ ?_⟩
  refine⟨H1,E3,[.ref l],[.ow acc],b,E4,fr3,fun _=>clm,e4,fun H4 fr4=>?_⟩
  cases b with
  |false=>
   rw[if_neg (by decide)]
   exact⟨E4,acc,dO,ei,er,fr4⟩
  |true=>
   rw[if_pos rfl]
   obtain⟨⟨s5,E5⟩,e5,ei⟩:=Za.mp ei
   obtain⟨⟨d6,E6⟩,e6,ei⟩:=Za.mp ei
   obtain⟨rest',e7,ei⟩:=Zab.mp ei
   subst ei
   refine⟨H1,E4,[.ref l],[.ow acc],s5,E5,fr4,fun _=>clm,e5,fun y5 H5 ⟨F5,A5,fr5⟩=>?_⟩
   obtain⟨F6,A6,fr6⟩:=fr5.frz0 e6
   obtain⟨v',C1,ev,rfl,w,ew,ry⟩:=fr6.ext (k:=0) rfl
   cases ev;cases ew
   obtain⟨A7,fr7⟩:=fr6.pop
   -- the list under way is the one part that owns
   obtain⟨bf,fh,tf,sl,nd,frn,len,pl⟩:=fr7
   generalize hT:List.map some [V.ref l]++σ3=T at sl
   generalize hS:[Sl.ow acc]++E6=S at sl
   cases sl with
   |nil=>cases hS
   |cons q0 r0=>
    injection hT with h1 hT
    injection hS with h2 hS
    subst h1 h2 hT hS
    obtain⟨l',us,el,rfl,hl5,ru⟩:=q0
    cases el
    have lu:=ru.len
    refine⟨us,hl5,v_ (by rw[er]at hc;simp at hc;omega),E6,acc++[d6],rest',e7,by rw[er];simp,F6,_,bf,fun b o qb=>?_,?_,.cons (A:=[l]) ⟨l,us++[y5],rfl,rfl,upd_same,ru.snoc ry⟩ (r0.mono fun o s C hs hC qq=>qq.stay (Same.refl _) (fun b hb=>aF fun z=>?_) fun z=>?_),nd,frn,rfl,pl⟩
    ·have lF:F6 l=none:=frn l (by simp)
     rw[aF (fun z=>by rw[z,lF]at qb;cases qb)]
     exact fh _ _ qb
    ·rw[nE hl5];exact tf
    ·have:=hC b hb
     rw[z]at this
     exact(List.nodup_cons.mp nd).1 this
    ·have:=pl s hs
     cases s <;> simp[Sl.isAl,Sl.isBr]at this z
 ·have e0:i=ds.length:=by omega
  refine .inl ⟨stop e0,?_⟩
  rw[e0,List.drop_length]at ei
  cases ei
  rw[tL]at er
  subst er
  obtain⟨g1,g2⟩:=fri.result hc.1
  exact q _ _ (fr1.told g1 g2)
theorem m5{m2:Bool}{tt:TT}(htt:∀σ H Q,rt K m2 cond σ H Q→tt σ H Q){Q:VK}(z:rd K m (c7 js it tg cond el) σ H Q):pv js (ri K m it) (rg K tg) tt (rd K m3 el) σ H Q:=by
 obtain⟨B,E,xs,Xs,res,E',fr,cl,e,q⟩:=z
 obtain⟨⟨ds,E1⟩,e1,e⟩:=Za.mp e
 obtain⟨rs,e2,e⟩:=Za.mp e
 simp only at e
 split at e
 ·rename_i hc
  cases e
  simp only[qZ,decide_eq_true_eq]at hc
  exact⟨B,E,xs,Xs,ds,_,fr,cl,e1,fun B' J H1 hB ⟨F,A,fr1⟩ ok l hl=>xN htt (fr1.base hB) (fr1.bf.trans fr1.fh) ok e2 hc q l hl⟩
 ·cases e
theorem gj(C:CompOk X scope sc cl N js)(hc:X.calm=true)(hi:IX X target iter m it)(hg:∀C s₀ H₀ fp,GX (X.comp sc cl N C s₀ H₀ fp) target tg)(he:∀C s₀ H₀ fp,EX (X.comp sc cl N C s₀ H₀ fp) elt m3 el)
  (hs:∀x,foldedSetIterable iter X.env x=pure x:=by intro _;rfl):EX X (.ListComp elt [⟨target,iter,[],0⟩] scope pos) m (c7 js it tg dl el):=
 bv (vV (g:=rg X.K tg) (te:=rd X.K m3 el) C hc hi hg (fun _ _ _ _=>vT) he hs) fun σ H Q z=>m5 (m2:=false) (fun σ H Q z=>by
  obtain⟨B,E,xs,Xs,b,E',fr,cl,e,q⟩:=z
  cases e
  exact q _ fr) z
theorem rJ{m2:Bool}(C:CompOk X scope sc cl N js)(hc:X.calm=true)(hi:IX X target iter m it)(hg:∀C s₀ H₀ fp,GX (X.comp sc cl N C s₀ H₀ fp) target tg)(ht:∀C s₀ H₀ fp,TX (X.comp sc cl N C s₀ H₀ fp) c m2 cond)(he:∀C s₀ H₀ fp,EX (X.comp sc cl N C s₀ H₀ fp) elt m3 el)
  (hs:∀x,foldedSetIterable iter X.env x=pure x:=by intro _;rfl):EX X (.ListComp elt [⟨target,iter,[c],0⟩] scope pos) m (c7 js it tg cond el):=
 bv (vV (g:=rg X.K tg) (te:=rd X.K m3 el) (tt:=rt X.K m2 cond) C hc hi hg (fun _ _ _ _=>vU (ht _ _ _ _)) he hs) fun σ H Q z=>m5 (m2:=m2) (fun _ _ _ z=>z) z
end
end PL
namespace PL
open PySem L2 Nh
def keyOf:PyData→Option iQ
 |.int i=>some (.inl i)
 |.str x=>some (.inr x)
 |_=>none
end PL
namespace PL
open PySem L2 Nh
theorem Fs{K:Frag}{i:Nat}(z:rs K (aP i f) D σ H):rd K m f σ H fun v H1=>zI i v σ H1 D.nx:=by
 obtain⟨B,E,xs,Xs,E',fl,fr,cl,e,q⟩:=z
 obtain⟨⟨s,E1⟩,e1,e⟩:=Za.mp e
 obtain⟨⟨s',E2⟩,e2,e⟩:=Za.mp e
 refine⟨B,E,xs,Xs,s,E1,fr,fun _=>Calm.nil cl,e1,fun v H1 ⟨F,A,fr1⟩=>?_⟩
 obtain⟨c1,F2,A2,fr2⟩:=fr1.settle cl e2
 simp only at e
 split at e
 ·rename_i hi
  cases e
  obtain⟨A3,fr3⟩:=fr2.store c1 (Still.nil cl) hi
  exact q _ _ ⟨F2,A3,fr3⟩
 ·cases e
section
variable {X:Cx} {elt target iter:Expr} {scope sc:Scope} {cl:List (Str×Addr)} {N:List Str} {pos spos px:Pos} {js:List (Option Nat)} {x:Str}
theorem Ap{m2:Bool}(i:Nat)(hN:X.N.Nodup)(C:CompOk X scope sc cl N js)(hc:X.calm=true)(h:IX X target iter m it)(hg:∀C s₀ H₀ fp,GX (X.comp sc cl N C s₀ H₀ fp) target tg)(ht:∀C s₀ H₀ fp,TX (X.comp sc cl N C s₀ H₀ fp) c m2 cond)(he:∀C s₀ H₀ fp,EX (X.comp sc cl N C s₀ H₀ fp) elt m3 el)
  (hi:X.N[i]? =some x:=by rfl) (hx:Ep X.env.scope x:=by first |exact Or.inl rfl |exact Or.inr rfl) (hf:X.fn x=true∨X.env.scope.names.lookup x=some .local:=by first |exact .inl rfl |exact .inr rfl |assumption)
  (hs:∀x,foldedSetIterable iter X.env x=pure x:=by intro _;rfl) (hsw:swapsWith (.ListComp elt [⟨target,iter,[c],0⟩] scope pos) (some (.Name x px)) spos.line X.env=pure true:=by rfl):
  SX X (.Assign [.Name x px] (.ListComp elt [⟨target,iter,[c],0⟩] scope pos) spos) (aP i (c7 js it tg cond el)):=
 km (Co (g:=rg X.K tg) (te:=rd X.K m3 el) (tt:=rt X.K m2 cond) C hc (vN hN hi hx hf) h hg (fun _ _ _ _=>vU (ht _ _ _ _)) he hs hsw) fun D σ H z=>m5 (m2:=m2) (fun _ _ _ z=>z) (Fs z)
end
def G6:Const→Option Int
 |.int i=>some i
 |_=>none
def Ft:Expr→Option Int
 | .Constant c _ _=>G6 c
 |_=>none
def jS:List Expr→Option (List Int)
 |[]=>some []
 |e::r=>(Ft e).bind fun i=>(jS r).map (i:: ·)
def Aq(ns:List Int):jP:=fun E=>some (ns.map .int,E)
theorem Fu{i:Int}(h:Ft e=some i):∃k p,e= .Constant (.int i) k p:=by
 unfold Ft at h
 split at h
 ·unfold G6 at h
  split at h
  ·cases h;exact⟨_,_,rfl⟩
  ·cases h
 ·cases h
theorem wc:∀{es:List Expr} {ns:List Int},jS es=some ns→DX X es false (Aq ns)
 |[],ns,h=>by cases h;exact tU
 |e::es,ns,h=>by
  obtain⟨i,h0,h⟩:=Za.mp h
  obtain⟨ms,h1,h⟩:=Zab.mp h
  subst h
  obtain⟨k,p,rfl⟩:=Fu h0
  exact kY (m1:=false) (m2:=false) au (wc h1) rfl
def G7(body:List Stmt)(k:Nat):List Expr:=match body[k]? with
 |some (.Assign _ (.Subscript (.List es _) _ _) _)=>es
 |_=>[]
def IK(es:List Expr):Stmt→Stmt
 | .Assign t (.Subscript (.List _ p) i q) r=> .Assign t (.Subscript (.List es p) i q) r
 |s=>s
def Fv(es:List Expr):Nat→List Stmt→List Stmt
 |_,[]=>[]
 | 0,s::r=>IK es s::r
 |k+1,s::r=>s::Fv es k r
theorem tX{g:cZ}(k:Nat)(ns:List Int)(h:jS (G7 body k)=some ns)(hb:Fv (G7 body k) k body=body)(key:∀es,jS es=some ns→q_ X (Fv es k body) g):q_ X body g:=by
 have:=key _ h
 rw[hb]at this
 exact this
end PL
namespace PL
open PySem L2 Nh
theorem i_(xs:List α)(k:Nat):atI xs (k:Int)=xs[k]? :=by
 unfold atI GP
 rw[if_pos (by omega)]
 split
 ·simp
 ·rw[List.getElem?_eq_none (by omega)];rfl
theorem Fw{xs:List α}{i:Int}(h:0≤i):atI xs i=xs[i.toNat]? :=by
 have e:i=((i.toNat:Nat):Int):=by omega
 rw[e,i_,Int.toNat_natCast]
theorem pD:∀{a:List PyData},(∀d∈a,dP d=true)→bR a=true
 |[],_=>rfl
 |x::a,h=>by simp[bR,h x (jJ ..),pD fun d hd=>h d (gW _ hd)]
theorem xO{f:α→PyData}(h:∀a,dP (f a)=true)(l:List α):bR (l.map f)=true:=pD fun d hd=>by
 obtain⟨a,_,rfl⟩:=Zaz.mp hd
 exact h a
theorem pE(l:List Int):bR (l.map PyData.int)=true:=xO (fun _=>rfl) l
def iS{α:Type}(l:List α)(lo hi:Option Int):List α:=(l.drop (HT.m4 l.length 0 lo)).take (HT.m4 l.length l.length hi - HT.m4 l.length 0 lo)
theorem rK(f:α→PyData)(l:List α)(lo hi:Option Int):xG (l.map f) lo hi=(iS l lo hi).map f:=by
 unfold xG iS
 rw[fw,List.map_take,List.map_drop]
theorem Ar(l:List α)(lo hi:Option Int):(iS l lo hi).length≤l.length:=by
 unfold iS
 rw[oS,List.length_drop]
 omega
theorem pG(l:List α){k:Int}(h0:0≤k):iS l none (some k)=l.take k.toNat:=by
 have e:k=((k.toNat:Nat):Int):=by omega
 have z:∀d,HT.m4 l.length d (some k)=min k.toNat l.length:=fun d=>by
  rw[e,HT.qd,Int.toNat_natCast]
 unfold iS
 rw[z,HT.zT,List.drop_zero,Nat.sub_zero]
 rcases Nat.le_total k.toNat l.length with h |h
 ·rw[Nat.min_eq_left h]
 ·rw[Nat.min_eq_right h,List.take_length,List.take_of_length_le h]
theorem xP(lo:Int)(n:Nat):oX lo (n+1)=.int lo::oX (lo+1) n:=by
 unfold oX
 rw[List.range_succ_eq_map,gI,List.map_map]
 simp only[Int.natCast_zero,Int.add_zero]
 congr 1
 refine List.map_congr_left fun k _=>?_
 show PyData.int (lo+((k+1:Nat):Int))=PyData.int (lo+1+(k:Int))
 congr 1
 omega
end PL
namespace L2
open PySem PySem.Spec PyProof.Rows
def Ib(x:Str):It:=⟨fun i _=>i < x.cps.toList.length,fun i H v H'=>H'=H∧∃c,x.cps.toList[i]? =some c∧v=.str ⟨#[c]⟩,fun i _=>i=x.cps.toList.length⟩
theorem As{w:World} {K:Frag} {tg:Expr} {it:Addr} {T:String}  {t:Tok} (hT:T="str_ascii_iterator"∨T="str_iterator"):Turn P w K tg (Ib x) [it] it (fun i h=>h.IsStrIter it T x t i) where
 mem:=by simp
 obj:=fun i h st b hb=>by
  have e:b=it:=by simpa using hb
  subst e
  obtain⟨o,e,c,d⟩:=st
  exact⟨o,e,fun v z=>by rw[d]at z;cases z⟩
 keep:=fun i h h' st k=>let ⟨o,ho,r⟩:=st;⟨o,k it (by simp) o ho,r⟩
 item:=by
  intro X hP hw hK hc i pins s σ H E I hf st hg
  subst hP hw hK
  obtain⟨f0,f1,f2,f3,f4,f5⟩:=hf it (by simp)
  have hi:i < x.cps.toList.length:=hg
  have hx:x.cps[i]? =some (x.cps.toList[i]'hi):=by simp at hi;simp[hi]
  have fin:∀(h':Heap),h'.IsStrIter it T x t (i+1)→Heap.SameBut it s.heap h'→∃u,some (Value.str ⟨#[x.cps.toList[i]'hi]⟩ s.toks)=some u∧
    wpAny (model X.prog X.w) X.A (letOwnedTupleGo tg (.ref it) u) (fun _ s2=>∃v H',Inv X pins σ H' s2∧RelV v u∧(Ib x).yld i H v H'∧s2.heap.IsStrIter it T x t (i+1)∧∀b∈[it],H' b=none) E {s with heap:=h',toks:=s.toks+1}:=fun h' st' sb=>by
   have I1:Inv X pins σ H {s with heap:=h',toks:=s.toks+1}:=I.turned (t':=s.toks+1) (fun b o hb e=>(sb.2 b hb).trans e) f0 f1 f3 f4 f5
   obtain⟨o,e,c,d⟩:=id st'
   exact⟨_,rfl,rm (s:={s with heap:=h',toks:=s.toks+1}) e c d (by rcases hT with rfl |rfl <;> decide) ⟨.str ⟨#[x.cps.toList[i]'hi]⟩,H,I1,⟨_,rfl⟩,⟨rfl,_,oU hi,rfl⟩,st',fun b hb=>(hf b hb).1⟩⟩
  rcases hT with rfl |rfl
  ·exact wpAny_pyNext_ascii_item st hx fun h' st' sb=>fin h' st' sb
  ·exact wpAny_pyNext_wide_item st hx fun h' st' sb=>fin h' st' sb
 done:=by
  intro X hP hw hK hc i pins s σ H E I hf st hg
  subst hP hw hK
  obtain⟨f0,f1,f2,f3,f4,f5⟩:=hf it (by simp)
  have hi:i=x.cps.toList.length:=hg
  have hx:x.cps[i]? =none:=by simp at hi;simp[hi]
  rcases hT with rfl |rfl
  ·exact wpAny_pyNext_ascii_end (I.ok.hd hc) st hx fun h' eb=>⟨rfl,I.turned (t':=s.toks) (fun b o hb e=>eb b o hb e) f0 f1 f3 f4 f5⟩
  ·exact wpAny_pyNext_wide_end (I.ok.hd hc) st hx fun h' eb=>⟨rfl,I.turned (t':=s.toks) (fun b o hb e=>eb b o hb e) f0 f1 f3 f4 f5⟩
 self:=fun _ _ _ _ _ st h=>by
  rcases hT with rfl |rfl
  ·exact wpAny_pyIter_striter_ascii st h
  ·exact wpAny_pyIter_striter_wide st h
def IM(tl:TE):TI:=fun σ H R=>tl σ H fun v H1=>∃x,v=.str x∧R (Ib x) H1
theorem Fx{tg l:Expr}{tl:TE}(hl:PE X l tl):PI X tg l (IM tl):=by
 intro pins s σ H R I h
 refine ce (hl pins s σ H _ I h) fun v s1 ⟨y,H1,I1,r1,q1⟩=>?_
 obtain⟨x,e,q⟩:=q1
 subst e
 obtain⟨t,rfl⟩:=r1
 refine wpAny_pyIter_strU ?_
 refine⟨s1.heap.objs.size,[s1.heap.objs.size],fun i h=>h.IsStrIter s1.heap.objs.size (strIterType x) x t i,_,H1,rfl,I1.kept (t':=s1.toks) fun b o e=>eT _ e,As (t:=t) ?_,⟨_,kh _ rfl,rfl,rfl⟩,fun b hb=>?_,q⟩
 ·unfold strIterType
  split
  ·exact .inl rfl
  ·exact .inr rfl
 ·have e:b=s1.heap.objs.size:=by simpa using hb
  subst e
  exact I1.fpOk (eD _) (I1.hok.fresh (eD _))
theorem PI.or{tg l:Expr}{a b:TI}(h1:PI X tg l a)(h2:PI X tg l b):PI X tg l (fun σ H R=>a σ H R∨b σ H R):=by
 intro pins s σ H R I h
 rcases h with h |h
 ·exact h1 pins s σ H R I h
 ·exact h2 pins s σ H R I h
end L2
namespace PL
open PySem L2 Nh
def gJ(x:Str):List PyData:=x.cps.toList.map fun c=>.str ⟨#[c]⟩
def b_(f:bj):jP:=fun E=>(f E).bind fun a=>(frz a.2 a.1).bind fun b=>match b.1 with
 |.list ds=>some (ds,b.2)
 |.tuple ds=>some (ds,b.2)
 |.str x=>some (gJ x,b.2)
 |_=>none
section
variable {X:Cx} {K:Frag} {B:Hp}
theorem At:tW K B (Ib x) (gJ x):=fun {B' F A σ H E xs Xs} i sB fr=>by
 refine⟨fun d ed=>?_,fun e=>by show i=x.cps.toList.length;rw[e];simp[gJ]⟩
 unfold gJ at ed
 rw[wT]at ed
 obtain⟨c,ec,rfl⟩:=Zab.mp ed
 refine⟨(Zar.mp ec).1,fun z H2 ⟨e1,c',e2,e3⟩=>?_⟩
 rw[ec]at e2;cases e2
 subst e1 e3
 exact⟨F,A,fr.push ⟨rfl,_,rfl,.str _⟩⟩
theorem Au(h:SqT K B a vs)(r:RpA K B vs ds):tW K B (Is K a) ds:=fun {B' F A σ H E xs Xs} i sB fr=>by
 have hH:=fr.fh.tup (fr.bf.tup (sB.tup h))
 refine⟨fun d ed=>?_,fun e=>⟨vs,hH,by rw[e,r.len];exact eD _⟩⟩
 obtain⟨v,ev,rv⟩:=r.get ed
 refine⟨⟨vs,v,hH,ev⟩,fun x H2 ⟨e2,y⟩=>?_⟩
 subst e2
 have:=y vs hH
 rw[ev]at this
 cases this
 exact⟨F,A,fr.push ⟨rfl,_,rfl,rv.same (sB.trans fr.bf)⟩⟩
theorem de{tg:Expr}(he:EX X e m f):IX X tg e m (b_ f):=Ao (PI.or (B8 he) (PI.or (EB he) (Fx he))) fun σ H R z=>by
 obtain⟨B,E,xs,Xs,ds,E',fr,cl,e,q⟩:=z
 obtain⟨⟨s,E1⟩,e1,e⟩:=Za.mp e
 obtain⟨⟨d,E2⟩,e2,e⟩:=Za.mp e
 have key:∀(v:V) (H1:Hp),Frm X.K B σ H1 E1 (v::xs) (s::Xs)→∃F2 A2 A3,Rp X.K F2 v d∧Same B F2∧FrF X.K F2 F2 A3 σ H1 E2 xs Xs∧FrF X.K B F2 A2 σ H1 E2 (v::xs) (.sh d::Xs):=fun v H1 ⟨F,A,fr1⟩=>by
  obtain⟨F2,A2,fr2⟩:=fr1.frz0 e2
  obtain⟨v',A1,ev,rfl,w,ew,r⟩:=fr2.ext (k:=0) rfl
  cases ev;cases ew
  obtain⟨A3,fr3⟩:=fr2.pop
  exact⟨F2,A2,A3,r,fr2.bf,fr3.raise,fr2⟩
 simp only at e
 split at e
 ·cases e
  refine .inl ⟨B,E,xs,Xs,s,E1,fr,cl,e1,fun v H1 fr1=>?_⟩
  obtain⟨F2,A2,A3,r,sb,fr3,fr2⟩:=key v H1 fr1
  cases r with
  |lst h1 h2=>exact⟨_,rfl,⟨_,fr2.fh.seq h1⟩,q F2 _ _ sb ⟨F2,A3,fr3⟩ (xK h1 h2)⟩
 ·cases e
  refine .inr (.inl ⟨B,E,xs,Xs,s,E1,fr,cl,e1,fun v H1 fr1=>?_⟩)
  obtain⟨F2,A2,A3,r,sb,fr3,fr2⟩:=key v H1 fr1
  cases r with
  |tup h1 h2=>exact⟨_,rfl,⟨_,fr2.fh.tup h1⟩,q F2 _ _ sb ⟨F2,A3,fr3⟩ (Au h1 h2)⟩
 ·cases e
  refine .inr (.inr ⟨B,E,xs,Xs,s,E1,fr,cl,e1,fun v H1 fr1=>?_⟩)
  obtain⟨F2,A2,A3,r,sb,fr3,fr2⟩:=key v H1 fr1
  cases r
  exact⟨_,rfl,q F2 _ _ sb ⟨F2,A3,fr3⟩ At⟩
 ·cases e
end
end PL
namespace PL
open PySem L2 Nh
inductive Cm where
 |lt |le |gt |ge
def Cm.op:Cm→CmpOp
 |.lt=> .Lt
 |.le=> .LtE
 |.gt=> .Gt
 |.ge=> .GtE
def Cm.i:Cm→Int→Int→Bool
 |.lt,i,j=>decide (i < j)
 |.le,i,j=>decide (i≤j)
 |.gt,i,j=>decide (j < i)
 |.ge,i,j=>decide (j≤i)
def Cm.s:Cm→List Nat→List Nat→Bool
 |.lt,i,j=>decide (i < j)
 |.le,i,j=> !decide (j < i)
 |.gt,i,j=>decide (j < i)
 |.ge,i,j=> !decide (i < j)
def gK(c:Cm):PyData→PyData→Option PyData
 |.int i,.int j=>some (.bool (c.i i j))
 |.str x,.str y=>some (.bool (c.s x.cps.toList y.cps.toList))
 |_,_=>none
def Jv(c:Cm):R2:=fun x y H Q=>(∃i j,x=.int i∧y=.int j∧Q (.bl (c.i i j)) H)∨(∃i j,x=.str i∧y=.str j∧Q (.bl (c.s i.cps.toList j.cps.toList)) H)
section
variable {X:Cx} {a b c:Expr} {m1 m2 m3:Bool} {f g h:bj} {pos:Pos} {K:Frag}
theorem rL(c:Cm):OpR X (compareOp c.op) (Jv c):=by
 cases c with
 |lt=>exact OpR.or GK wZ
 |le=>exact OpR.or GL (fun pins s σ H x y v u Q I rx ry h=>by
   obtain⟨i,j,rfl,rfl,q⟩:=h
   obtain⟨t,rfl⟩:=rx
   obtain⟨t',rfl⟩:=ry
   exact PySem.P.le_str (a5 I q rfl))
 |gt=>exact OpR.or GM (fun pins s σ H x y v u Q I rx ry h=>by
   obtain⟨i,j,rfl,rfl,q⟩:=h
   obtain⟨t,rfl⟩:=rx
   obtain⟨t',rfl⟩:=ry
   exact PySem.P.gt_str (a5 I q rfl))
 |ge=>exact OpR.or GN (fun pins s σ H x y v u Q I rx ry h=>by
   obtain⟨i,j,rfl,rfl,q⟩:=h
   obtain⟨t,rfl⟩:=rx
   obtain⟨t',rfl⟩:=ry
   exact PySem.P.ge_str (a5 I q rfl))
theorem rM(c:Cm):rE K (Jv c) (gK c):=fun d1 d2 d v1 v2 H Q e r1 r2=>by
 unfold gK at e
 split at e
 ·cases e;cases r1;cases r2
  exact⟨_,rfl,fun q=>.inl ⟨_,_,rfl,rfl,q⟩⟩
 ·cases e;cases r1;cases r2
  exact⟨_,rfl,fun q=>.inr ⟨_,_,rfl,rfl,q⟩⟩
 ·cases e
theorem xQ(c:Cm)(b:Expr):behindInMarks c.op b=false:=by cases c <;> exact qc _
theorem pH(c:Cm)(ha:EX X a m1 f)(hb:EX X b m2 g):TX X (.Compare a [c.op] [b] pos) (m1||m2) (iN (ao (kR (gK c)) m2 f g)):=qm (rL c) (nJ (rM c)) ha hb (xQ c b)
theorem G8(c1 c2:Cm)(ha:EX X a m1 f)(hb:EX X b m2 g)(hc:EX X c m3 h)(hm:lastMarks [c1.op,c2.op] [b,c]=false:=by with_unfolding_all rfl):EX X (.Compare a [c1.op,c2.op] [b,c] pos) (m1||(m2||m3)) (iW (gK c1) (gK c2) m2 m3 f g h):=Ah (rL c1) (rL c2) (rM c1) (rM c2) ha hb hc hm
theorem G9(c1 c2:Cm)(ha:EX X a m1 f)(hb:EX X b m2 g)(hc:EX X c m3 h)(hm:lastMarks [c1.op,c2.op] [b,c]=false:=by with_unfolding_all rfl):TX X (.Compare a [c1.op,c2.op] [b,c] pos) (m1||(m2||m3)) (iN (iW (gK c1) (gK c2) m2 m3 f g h)):=Aj (rL c1) (rL c2) (rM c1) (rM c2) ha hb hc hm
def tY:P2:=kR (Aa (fun _ _=>true) fun i j=>.int (Builtin.bitAnd i j))
theorem wd(ha:EX X a m1 f)(hb:EX X b m2 g):EX X (.BinOp a .BitAnd b pos) (m1||m2) (ao tY m2 f g):=nK (r:=E_ (fun _ _=>true) fun i j=>.int (Builtin.bitAnd i j)) (OpR.imp EJ fun x y H Q ⟨i,j,a,b,_,q⟩=>⟨i,j,a,b,q⟩) (nM fun _ _=>rfl) ha hb
def eZ:List PyData→Option (List Str)
 |[]=>some []
 |.str x::ds=>(eZ ds).map fun xs=>x::xs
 |_::_=>none
def qv:List PyData→Option (List Int)
 |[]=>some []
 |.int x::ds=>(qv ds).map fun xs=>x::xs
 |_::_=>none
theorem gZ:∀{ds:List PyData} {xs:List Str},eZ ds=some xs→ds=xs.map .str
 |[],xs,h=>by cases h;rfl
 |d::ds,xs,h=>by
  cases d with
  |str x=>
   obtain⟨ys,e,rfl⟩:=Zab.mp h
   rw[gZ e];rfl
  |_=>cases h
theorem lR:∀{ds:List PyData} {xs:List Int},qv ds=some xs→ds=xs.map .int
 |[],xs,h=>by cases h;rfl
 |d::ds,xs,h=>by
  cases d with
  |int x=>
   obtain⟨ys,e,rfl⟩:=Zab.mp h
   rw[lR e];rfl
  |_=>cases h
theorem ja:∀{vs:List V} {xs:List Str},RpA K H vs (xs.map .str)→vs=xs.map .str
 |[],[],_=>rfl
 |v::vs,x::xs,.cons h r=>by cases h;rw[ja r];rfl
theorem nQ:∀{vs:List V} {xs:List Int},RpA K H vs (xs.map .int)→vs=xs.map .int
 |[],[],_=>rfl
 |v::vs,x::xs,.cons h r=>by cases h;rw[nQ r];rfl
def G_:PyData→PyData→Option Bool
 |.str x,.str y=>some (!(Builtin.Str.occurrences y x 0 y.length 1).isEmpty)
 |.str x,.list ds=>(eZ ds).map fun xs=>xs.contains x
 |.str x,.tuple ds=>(eZ ds).map fun xs=>xs.contains x
 |.int x,.list ds=>(qv ds).map fun xs=>xs.contains x
 |.int x,.tuple ds=>(qv ds).map fun xs=>xs.contains x
 |_,_=>none
def Ha(K:Frag)(neg:Bool):R2:=fun x y H Q=>(∃i j,x=.str i∧y=.str j∧Q (.bl (if neg then !(!(Builtin.Str.occurrences j i 0 j.length 1).isEmpty)else !(Builtin.Str.occurrences j i 0 j.length 1).isEmpty)) H)∨Jt K neg x y H Q
theorem rN(x:Str)(xs:List Str):Gq (.str x) (xs.map .str)=xs.contains x:=by
 induction xs with
 |nil=>rfl
 |cons y xs ih=>
  rw[List.contains_cons,←ih]
  show(BV (.str y) (.str x)||Gq (.str x) (xs.map .str))=_
  congr 1
  show(y == x)=(x == y)
  exact BEq.comm
theorem rO(x:Int)(xs:List Int):Gq (.int x) (xs.map .int)=xs.contains x:=by
 induction xs with
 |nil=>rfl
 |cons y xs ih=>
  rw[List.contains_cons,←ih]
  show(BV (.int y) (.int x)||Gq (.int x) (xs.map .int))=_
  congr 1
  show(y == x)=(x == y)
  exact BEq.comm
theorem Fy(neg:Bool):rE K (Ha K neg) (fun d1 d2=>(G_ d1 d2).map fun b=>.bool (if neg then !b else b)):=fun d1 d2 d v1 v2 H Q e r1 r2=>by
 obtain⟨b,e',rfl⟩:=Zab.mp e
 clear e
 have e:=e'
 clear e'
 refine⟨_,rfl,fun q=>?_⟩
 have hs:∀xs:List Str,(xs.map V.str).all iM=true:=fun xs=>by simp[List.all_eq_true,iM]
 have hi:∀xs:List Int,(xs.map V.int).all iM=true:=fun xs=>by simp[List.all_eq_true,iM]
 unfold G_ at e
 split at e
 ·cases e;cases r1;cases r2
  exact .inl ⟨_,_,rfl,rfl,q⟩
 ·obtain⟨xs,ex,rfl⟩:=Zab.mp e
  cases r1
  cases r2 with
  |lst h1 h2=>
   rw[gZ ex]at h2
   rw[ja h2]at h1
   exact .inr ⟨_,_,rfl,.inl h1,rfl,hs _,by rw[rN];exact q⟩
 ·obtain⟨xs,ex,rfl⟩:=Zab.mp e
  cases r1
  cases r2 with
  |tup h1 h2=>
   rw[gZ ex]at h2
   rw[ja h2]at h1
   exact .inr ⟨_,_,rfl,.inr h1,rfl,hs _,by rw[rN];exact q⟩
 ·obtain⟨xs,ex,rfl⟩:=Zab.mp e
  cases r1
  cases r2 with
  |lst h1 h2=>
   rw[lR ex]at h2
   rw[nQ h2]at h1
   exact .inr ⟨_,_,rfl,.inl h1,rfl,hi _,by rw[rO];exact q⟩
 ·obtain⟨xs,ex,rfl⟩:=Zab.mp e
  cases r1
  cases r2 with
  |tup h1 h2=>
   rw[lR ex]at h2
   rw[nQ h2]at h1
   exact .inr ⟨_,_,rfl,.inr h1,rfl,hi _,by rw[rO];exact q⟩
 ·cases e
def BW(neg:Bool):P2:=kR fun d1 d2=>(G_ d1 d2).map fun b=>.bool (if neg then !b else b)
theorem Fz:OpR X (compareOp .In) (Ha X.K false):=OpR.or w_ xD
theorem we(ha:EX X a m1 f)(hb:EX X b m2 g)(hm:behindInMarks .In b=false:=by with_unfolding_all rfl):TX X (.Compare a [.In] [b] pos) (m1||m2) (iN (ao (BW false) m2 f g)):=qm Fz (nJ (Fy false)) ha hb hm
end
def rP(x:Str):PyData→Option PyData
 |.list ds=>(eZ ds).bind fun ys=>if (ys.map (·.length)).sum+ys.length*x.length≤1000000 then some (.str (Txt.join x ys))else none
 |.tuple ds=>(eZ ds).bind fun ys=>if (ys.map (·.length)).sum+ys.length*x.length≤1000000 then some (.str (Txt.join x ys))else none
 |_=>none
theorem pI{ys:List Str}:∀{us:List Value},Vals (ys.map V.str) us→PyProof.Rows.StrsAre us ys:=by
 induction ys with
 |nil=>intro us h;cases h;exact .nil
 |cons y ys ih=>
  intro us h
  cases h with
  |cons h r=>
   obtain⟨t,rfl⟩:=h
   exact .cons y t (ih r)
def Hb(K:Frag):V→List V→Hp→VK→Prop:=fun x vs H Q=>∃z p ys,x=.str z∧vs=[.ref p]∧(SqL K H p (ys.map .str)∨SqT K H p (ys.map .str))∧(ys.map (·.length)).sum+ys.length*z.length≤16777216∧Q (.str (Txt.join z ys)) H
theorem CD:ID X "str.join" (Hb X.K):=by
 intro pins s σ H x vs v us Q I rx rv h
 obtain⟨z,p,ys,rfl,rfl,hq,hl,q⟩:=h
 obtain⟨t,rfl⟩:=rx
 obtain⟨u,rfl,ru⟩:=rv.one
 cases ru
 rcases hq with hq |hq
 ·obtain⟨its,r,pl,_⟩:=I.list hq
  exact PyProof.Rows.join_list pl.isList (by simpa using pI r) hl fun t' k=>⟨.str _,H,I.tok _,⟨_,rfl⟩,q⟩
 ·obtain⟨its,r,pl,_⟩:=I.tuple hq
  exact PyProof.Rows.join_tuple pl (by simpa using pI r) hl fun t' k=>⟨.str _,H,I.tok _,⟨_,rfl⟩,q⟩
section
variable {X:Cx} {e o:Expr} {m1 m2:Bool} {g:lM} {f h:bj} {p pos apos cpos:Pos} {K:Frag}
def fB(x:Str)(f:bj):bj:=iR (rP x) f
theorem ig{sp:Pos} (he:EX X e m1 f) (hs:starEach [e] X.env=[(false,eval e X.env)]:=by rfl) (hbase:attributeBase (.Constant (.str x) j sp) "join" X.env (eval (.Constant (.str x) j sp) X.env)=eval (.Constant (.str x) j sp) X.env:=by rfl)
  (hfew:((backTo cpos (starEach [e] X.env)).all (fun x=> !x.1)&&(backToKw cpos (keywordEach [] X.env)).all (fun x=>x.1.isSome)
   &&decide (([e]:List Expr).length+([]:List Keyword).length+(if ([]:List Keyword).isEmpty then 0 else 1) < 30))=true:=by rfl) (hline:(apos.endLine == cpos.line)=true:=by rfl):
  EX X (.Call (.Attribute (.Constant (.str x) j sp) "join" apos) [e] [] cpos) m1 (fB x f):=by
 refine bv (zW PySem.F.plainAttrs_str PySem.F.slot_str_join PySem.F.type_str_join CD (p_) (cP he eJ hs) hbase hfew hline hs rfl) fun σ H Q z=>?_
 obtain⟨B,E,xs,Xs,res,E',fr,c,e,q⟩:=z
 obtain⟨⟨s1,E1⟩,e1,e⟩:=Za.mp e
 obtain⟨d1,e2,e⟩:=Za.mp e
 obtain⟨d,e3,e⟩:=Zab.mp e
 cases e
 refine⟨rfl,B,E,xs,Xs,s1,E1,fr,c,e1,fun v1 H1 ⟨F,A,fr1⟩=>?_⟩
 have r:=(fr1.look0 e2).1
 obtain⟨A',fr2⟩:=fr1.pop
 unfold rP at e3
 split at e3
 ·obtain⟨ys,ey,e3⟩:=Za.mp e3
  split at e3
  ·rename_i hl
   cases e3
   cases r with
   |lst h1 h2=>
    rw[gZ ey]at h2
    rw[ja h2]at h1
    exact⟨x,_,ys,rfl,rfl,.inl h1,by omega,q _ _ ⟨F,A',fr2.push ⟨rfl,_,rfl,.str _⟩⟩⟩
  ·cases e3
 ·obtain⟨ys,ey,e3⟩:=Za.mp e3
  split at e3
  ·rename_i hl
   cases e3
   cases r with
   |tup h1 h2=>
    rw[gZ ey]at h2
    rw[ja h2]at h1
    exact⟨x,_,ys,rfl,rfl,.inr h1,by omega,q _ _ ⟨F,A',fr2.push ⟨rfl,_,rfl,.str _⟩⟩⟩
  ·cases e3
 ·cases e3
end
theorem eN:SX X st (fun _=>none):=km zH fun D σ H z=>by
 obtain⟨B,E,xs,Xs,E',fl,fr,cl,e,q⟩:=z
 cases e
def e_:cZ:=fun _=>none
end PL
namespace PL
open PySem L2 Nh
theorem FB:SlR X (fun x lo hi H Q=>∃z,x=.str z∧z.length≤sizeLine∧Q (.str (Txt.slice z lo hi)) H):=by
 intro pins s σ H x v vl vu lo hi sl Q I rx hs pl pu h
 obtain⟨z,rfl,hz,q⟩:=h
 obtain⟨t,rfl⟩:=rx
 cases pl with
 |none=>
  cases pu with
  |none=>exact⟨"str",_,PySem.F.slot_str_getitem.lookup,typeIs_str _ _ _,wpAny_getItem_str_slice (l:=none) (u:=none) (st:=none) hs rfl (post_val_or_str ⟨lL (Txt.slice_le z _ _) hz,fun t' k=>⟨.str _,H,I.tok _,⟨_,rfl⟩,q⟩⟩)⟩
  |int j uj=>exact⟨"str",_,PySem.F.slot_str_getitem.lookup,typeIs_str _ _ _,wpAny_getItem_str_slice (l:=none) (u:=some (j,uj)) (st:=none) hs rfl (post_val_or_str ⟨lL (Txt.slice_le z _ _) hz,fun t' k=>⟨.str _,H,I.tok _,⟨_,rfl⟩,q⟩⟩)⟩
 |int i ui=>
  cases pu with
  |none=>exact⟨"str",_,PySem.F.slot_str_getitem.lookup,typeIs_str _ _ _,wpAny_getItem_str_slice (l:=some (i,ui)) (u:=none) (st:=none) hs rfl (post_val_or_str ⟨lL (Txt.slice_le z _ _) hz,fun t' k=>⟨.str _,H,I.tok _,⟨_,rfl⟩,q⟩⟩)⟩
  |int j uj=>exact⟨"str",_,PySem.F.slot_str_getitem.lookup,typeIs_str _ _ _,wpAny_getItem_str_slice (l:=some (i,ui)) (u:=some (j,uj)) (st:=none) hs rfl (post_val_or_str ⟨lL (Txt.slice_le z _ _) hz,fun t' k=>⟨.str _,H,I.tok _,⟨_,rfl⟩,q⟩⟩)⟩
def fW(m2:Bool)(f:bj)(lo hi:CB):bj:=fun E=>(f E).bind fun a=>if m2&&a.1.isBr then none else (lo a.2).bind fun b=>(hi b.2).bind fun c=>match look c.2 a.1 with
 |some (.list ds)=>if !pw c.2 a.1||bR (xG ds b.1 c.1)then some (.ow (xG ds b.1 c.1),c.2)else none
 |some (.str z)=>if z.length≤1000000 then some (.sh (.str (Txt.slice z b.1 c.1)),c.2)else none
 |_=>none
theorem gk{lo hi:Option Expr}{m2:Bool}{g h:CB}(he:EX X e m1 f)(hl:OX X lo m2 g)(hh:OX X hi m3 h):EX X (.Subscript e (.Slice lo hi none p2) pos) (m1||(m2||m3)) (fW (m2||m3) f g h):=by
 refine bv (zU (SlR.or Cj FB) he hl hh) fun σ H Q z=>?_
 obtain⟨B,E,xs,Xs,res,E',fr,cl,e,q⟩:=z
 obtain⟨⟨s,E1⟩,e1,e⟩:=Za.mp e
 by_cases hb:((m2||m3)&&s.isBr)=true
 ·rw[if_pos hb]at e;cases e
 rw[if_neg hb]at e
 have n1:(m2||m3)=true→s.isBr=false:=fun z=>by
  cases hs:s.isBr with
  |false=>rfl
  |true=>exact absurd (by rw[z,hs];rfl) hb
 obtain⟨⟨l,E2⟩,e2,e⟩:=Za.mp e
 obtain⟨⟨u,E3⟩,e3,e⟩:=Za.mp e
 refine⟨B,E,xs,Xs,s,E1,fr,fun z=>cl (by simp[z]),e1,fun v1 H1 fr1=>?_⟩
 refine⟨B,E1,v1::xs,s::Xs,l,E2,fr1,fun z=>Calm.cons (cl (by simp[z])) (n1 (by simp[z])),e2,fun H2 fr2=>?_⟩
 refine⟨B,E2,v1::xs,s::Xs,u,E3,fr2,fun z=>Calm.cons (cl (by simp[z])) (n1 (by simp[z])),e3,fun H3 ⟨F,A,fr3⟩=>?_⟩
 simp only at e
 split at e
 ·rename_i ds ld
  split at e
  ·rename_i hc
   cases e
   obtain⟨v,ev,r,f0⟩:=fr3.look (k:=0) rfl ld
   cases ev
   obtain⟨A',fr4⟩:=fr3.pop
   cases hh:pw E' s with
   |false=>
    obtain⟨a,vs,rfl,h1,h2⟩:=f0 hh
    exact .inl ⟨a,vs,rfl,h1,fun p hp=>q _ _ ⟨F,_,fr4.newl (h2.cut l u) hp⟩⟩
   |true=>
    rw[hh]at hc
    cases r with
    |lst h1 h2=>exact .inl ⟨_,_,rfl,h1,fun p hp=>q _ _ ⟨F,_,fr4.newl (fr3.coldA (h2.cut l u) (by simpa using hc)) hp⟩⟩
  ·cases e
 ·rename_i z ld
  split at e
  ·rename_i hc
   cases e
   have r:=(fr3.look0 ld).1
   cases r
   obtain⟨A',fr4⟩:=fr3.pop
   exact .inr ⟨_,rfl,eL hc,q _ _ ⟨F,A',fr4.push ⟨rfl,_,rfl,.str _⟩⟩⟩
  ·cases e
 ·cases e
def jb(scope:Scope)(env:Env):List (Str×Addr):=((scope.names.filter fun p=>p.2 ==.free).map fun p=>(p.1,(env.cells.lookup p.1).getD 0)).reverse
theorem g0{N:List Str}(clos:closureFor scope X.env=pure (jb scope X.env):=by rfl)(nocell:∀y∈scope.names,y.2≠ .cell:=by decide+kernel)(kind:scope.kind=.function:=by rfl)
  (names:∀y∈scope.names,y.2=.local→scope.names.lookup y.1=some .local:=by decide+kernel) (same:(scope.names.filter fun p=>p.2 ==.free).all (fun p=>(X.env.cells.lookup p.1).isSome)=true:=by rfl)
  (has:(relabel scope X.env).names.all (fun y=> !(y.2 ==.cell||y.2 ==.free)||((jb scope X.env).lookup y.1).isSome)=true:=by rfl) (len:js.length=N.length:=by rfl)
  (fr:(js.zip N).all (fun p=>match p.1 with |none=>true |some j=>X.N[j]? == some p.2&&((relabel scope X.env).names.lookup p.2 == some .cell||(relabel scope X.env).names.lookup p.2 == some .free)&&(X.env.kindOf p.2 == some .cell||X.env.kindOf p.2 == some .free))=true:=by rfl):
  CompOk X scope (relabel scope X.env) (jb scope X.env) N js where
 clos:=clos
 rel:=rfl
 nocell:=nocell
 kind:=kind
 names:=names
 same:=fun x c e=>by
  have hm:=PySem.mem_of_lookup e
  unfold jb at hm
  obtain⟨p,hp,ep⟩:=Zaz.mp (List.mem_reverse.mp hm)
  have:=List.all_eq_true.mp same _ hp
  obtain⟨c',ec⟩:=Zbf.mp this
  injection ep with e1 e2
  subst e1
  rw[ec]at e2 ⊢
  exact congrArg some e2
 has:=fun x h=>by
  have key:∀k,(relabel scope X.env).names.lookup x=some k→(k == NameKind.cell||k == NameKind.free)=true→∃c,(jb scope X.env).lookup x=some c:=fun k h hk=>by
   have:=List.all_eq_true.mp has _ (PySem.mem_of_lookup h)
   simp only[hk,Bool.not_true,Bool.false_or]at this
   exact Zbf.mp this
  rcases h with h |h
  ·exact key _ h rfl
  ·exact key _ h rfl
 len:=len
 from_:=fun i j h=>by
  have hi:i < js.length:=(Zar.mp h).1
  obtain⟨x,ex⟩:∃x,N[i]? =some x:=⟨N[i]'(by omega),oU (by omega)⟩
  have hz:(js.zip N)[i]? =some (some j,x):=by rw[List.getElem?_zip_eq_some];exact⟨h,ex⟩
  have:=List.all_eq_true.mp fr _ (List.mem_of_getElem? hz)
  simp only[qZ,Bool.or_eq_true,beq_iff_eq]at this
  exact⟨x,ex,this.1.1,this.1.2,this.2⟩
structure Bn (mg:Str→Option Value):Prop where
 len:mg "len"=none
 range:mg "range"=none
 abs:mg "abs"=none
 min:mg "min"=none
 max:mg "max"=none
 reversed:mg "reversed"=none
 enumerate:mg "enumerate"=none
 isinstance:mg "isinstance"=none
 list:mg "list"=none
 tuple:mg "tuple"=none
 str:mg "str"=none
 int:mg "int"=none
 bool:mg "bool"=none
 sorted:mg "sorted"=none
 zip:mg "zip"=none
 sum:mg "sum"=none
 any:mg "any"=none
 all:mg "all"=none
 set:mg "set"=none
 dict:mg "dict"=none
theorem Hc{K:Frag}{mg:Str→Option Value}(X:K.In h)(G:h.Ns mainGlobals mg)
  (z1:nsIn K mainGlobals "len"=some none) (z2:nsIn K mainGlobals "range"=some none) (z3:nsIn K mainGlobals "abs"=some none) (z4:nsIn K mainGlobals "min"=some none) (z5:nsIn K mainGlobals "max"=some none) (z6:nsIn K mainGlobals "reversed"=some none) (z7:nsIn K mainGlobals "enumerate"=some none) (z8:nsIn K mainGlobals "isinstance"=some none) (z9:nsIn K mainGlobals "list"=some none) (z10:nsIn K mainGlobals "tuple"=some none) (z11:nsIn K mainGlobals "str"=some none) (z12:nsIn K mainGlobals "int"=some none) (z13:nsIn K mainGlobals "bool"=some none) (z14:nsIn K mainGlobals "sorted"=some none) (z15:nsIn K mainGlobals "zip"=some none) (z16:nsIn K mainGlobals "sum"=some none) (z17:nsIn K mainGlobals "any"=some none) (z18:nsIn K mainGlobals "all"=some none) (z19:nsIn K mainGlobals "set"=some none) (z20:nsIn K mainGlobals "dict"=some none):Bn mg:=
 ⟨mg_none_of X G z1,mg_none_of X G z2,mg_none_of X G z3,mg_none_of X G z4,mg_none_of X G z5,mg_none_of X G z6,mg_none_of X G z7,mg_none_of X G z8,mg_none_of X G z9,mg_none_of X G z10,mg_none_of X G z11,mg_none_of X G z12,mg_none_of X G z13,mg_none_of X G z14,mg_none_of X G z15,mg_none_of X G z16,mg_none_of X G z17,mg_none_of X G z18,mg_none_of X G z19,mg_none_of X G z20⟩
end PL
namespace PL
open PySem PySem.Spec L2 Nh PyProof.Rows
def JG(i:Int):Prop:= -1000000≤i∧i≤1000000
instance (i:Int):Decidable (JG i):=inferInstanceAs (Decidable (_∧_))
theorem fits{i:Int}(h: -10000000≤i∧i≤10000000):Builtin.Range.rangeFitsLong i=true:=by
 unfold Builtin.Range.rangeFitsLong
 simp only[qZ,decide_eq_true_eq]
 omega
end PL
namespace PL
open PySem L2 Nh
section
variable {X:Cx} {e:Expr} {es:List Expr} {m1:Bool} {g:lM} {p pos:Pos}
theorem jM:∀{ns:List Int} {us:List Value},Vals (ns.map V.int) us→us.length=ns.length∧∀(i:Nat) (v:Value),us[i]? =some v→∃t,v=Value.int (ns.getD i 0) t
 |[],_,.nil=>⟨rfl,fun i v h=>by simp at h⟩
 |n::ns,_,.cons h t=>by
  obtain⟨tk,rfl⟩:=h
  obtain⟨h1,h2⟩:=jM t
  refine⟨by simp[h1],fun i v h=>?_⟩
  cases i with
  |zero=>simp at h;subst h;exact⟨tk,rfl⟩
  |succ i=>simpa using h2 i v (by simpa using h)
end
end PL
namespace PL
open PySem L2 Nh
def rf(a b:Str):Bool:=decide (a.cps.toList≤b.cps.toList)
def fD(ss:List Str):List Str:=ss.mergeSort rf
theorem jT(a b c:Str)(h:rf a b=true)(k:rf b c=true):rf a c=true:=zz4 (List.le_trans (zz5 h) (zz5 k))
theorem lS(a b:Str):(rf a b||rf b a)=true:=by
 rcases List.le_total a.cps.toList b.cps.toList with h |h
 ·simp[rf,h]
 ·simp[rf,h]
theorem nR{a b:Str}(h:rf a b=true)(k:rf b a=true):a=b:=by
 have e:=List.le_antisymm (zz5 h) (zz5 k)
 cases a;cases b
 simp only at e
 rw[Array.toList_inj.mp e]
theorem pJ:∀(p:Str) (l:List Str),PyProof.Rows.risingS p l=true→(p::l).Pairwise (fun a b=>rf a b=true)
 |p,[],_=>by simp
 |p,x::r,h=>by
  have h':(!PySem.Spec.ltCps x.cps.toList p.cps.toList&&PyProof.Rows.risingS x r)=true:=h
  rw[qZ,PyProof.Rows.ltCps_eq]at h'
  have ih:=pJ x r h'.2
  have hpx:rf p x=true:=by
   have:=h'.1
   simp only[Bool.not_eq_true',decide_eq_false_iff_not]at this
   exact zz4 this
  refine List.pairwise_cons.mpr ⟨fun y hy=>?_,ih⟩
  rcases Zai.mp hy with rfl |hy
  ·exact hpx
  ·exact jT p x y hpx ((List.pairwise_cons.mp ih).1 y hy)
theorem xR:∀l:List Str,PyProof.Rows.sortedS l=true→l.Pairwise (fun a b=>rf a b=true)
 |[],_=>List.Pairwise.nil
 |x::r,h=>pJ x r h
theorem kn{a b:List Str}(p:a.Perm b)(h:PyProof.Rows.sortedS a=true):a=fD b:=
 List.Perm.eq_of_pairwise (fun _ _ _ _ h k=>nR h k) (xR a h) (List.pairwise_mergeSort jT lS b) (p.trans (List.mergeSort_perm b rf).symm)
theorem jU(ss:List Str):(fD ss).length=ss.length:=(List.mergeSort_perm ss rf).length_eq
section
variable {X:Cx} {e:Expr} {m1:Bool} {f:bj} {p pos:Pos}
theorem nS:∀{ss:List Str} {us:List Value},Vals (ss.map V.str) us→PyProof.Rows.StrsAre us ss
 |[],_,.nil=>.nil
 |s::ss,_,.cons h t=>by obtain⟨tk,rfl⟩:=h;exact .cons _ _ (nS t)
theorem k9:∀{ss:List Str} {us:List Value},PyProof.Rows.StrsAre us ss→Vals (ss.map V.str) us
 |[],_,.nil=>.nil
 |_::_,_,.cons y t h=>.cons ⟨t,rfl⟩ (k9 h)
theorem qw:CallR X (.builtin "sorted") (fun xs H Q=>∃(p:Addr) (ss:List Str),xs=[.ref p]∧SqL X.K H p (ss.map V.str)∧ss.length < 64∧∀l,H l=none→Q (.ref l) (upd H l (.lst ((fD ss).map V.str)))):=by
 intro pins s σ H xs us Q I r h
 obtain⟨p,ss,rfl,hq,h64,q⟩:=h
 cases r with
 |cons r rr=>
  cases rr
  cases r
  obtain⟨its,rv,pl,hz⟩:=I.list hq
  have hS:=nS rv
  have hl:its.length=ss.length:=by have:=rv.length;simpa using this.symm
  refine PyProof.Rows.sorted_strs pl.isList hS (by omega) fun out ss' a1 a2 a3=>?_
  have:=kn a2 a3
  subst this
  obtain⟨e,he⟩:=PyProof.Rows.sortedAll_at s.heap its out
  refine⟨.ref (s.heap.objs.size+1),_,I.laid (t':=s.toks) (fun b o=>PyProof.Rows.sortedAll_old) (Nat.le_succ _) (show ObjOk X.prog X.w _ _ _ (.lst ((fD ss).map V.str))from⟨?_,out.toList,e,k9 a1,he⟩),rfl,q _ (I.hok.fresh (Nat.le_succ _))⟩
  rw[fw,jU]
  exact eL (by omega)
def j_:List PyData→Option (List Str)
 |[]=>some []
 |.str x::ds=>(j_ ds).map (x:: ·)
 |_=>none
theorem m6{K:Frag}:∀{vs:List V} {ds:List PyData} {bs:List Str},RpA K H vs ds→j_ ds=some bs→vs=bs.map V.str
 |_,_,bs,.nil,e=>by cases e;rfl
 |_,_,bs,.cons (d:=d) h t,e=>by
  cases d <;> simp[j_]at e
  obtain⟨cs,e,rfl⟩:=e
  cases h
  rw[m6 t e]
  rfl
theorem gl{K:Frag}:∀ss:List Str,RpA K H (ss.map V.str) (ss.map PyData.str)
 |[]=>.nil
 |s::ss=>.cons (.str s) (gl ss)
def fX(g:bj):bj:=fun E=>(g E).bind fun a=>match look a.2 a.1 with
 |some (.list ds)=>(j_ ds).bind fun ss=>if ss.length < 64 then some (.ow ((fD ss).map .str),a.2)else none
 |_=>none
theorem lT(hg:Gl X "sorted") (hm:X.mg "sorted"=none) (ha:EX X e m1 f) (he:starEach [e] X.env=[(false,eval e X.env)]:=by rfl):EX X (.Call (.Name "sorted" p) [e] [] pos) m1 (fX f):=by
 refine bv (gX qw hg hm PyProof.Rows.boot_sorted (cP ha eJ he) (by decide) (by decide) he rfl) fun σ H Q z=>?_
 obtain⟨B,E,xs,Xs,res,E',fr,cl,e,q⟩:=z
 obtain⟨⟨s,E1⟩,e1,e⟩:=Za.mp e
 refine⟨B,E,xs,Xs,s,E1,fr,cl,e1,fun v1 H1 ⟨F,A,fr1⟩=>?_⟩
 obtain⟨A',fr2⟩:=fr1.pop
 simp only at e
 split at e
 ·rename_i ds ld
  obtain⟨ss,es,e⟩:=Za.mp e
  split at e
  ·rename_i hc
   cases e
   have r:=(fr1.look0 ld).1
   cases r with
   |lst h1 h2=>
    have:=m6 h2 es
    subst this
    exact⟨_,ss,rfl,h1,hc,fun l hl=>q _ _ ⟨F,_,fr2.newl (gl _) hl⟩⟩
  ·cases e
 ·cases e
end
end PL
namespace PL
open PySem L2 Nh
def BX(ks:List Str)(x:Str):List Str:=if x∈ks then ks else ks++[x]
def j7(ss:List Str):List Str:=ss.foldl BX []
def fE(x:Str):List Str:=x.cps.toList.map fun c=>⟨#[c]⟩
def nT(g:bj):bj:=fun E=>(g E).bind fun a=>match look a.2 a.1 with
 |some (.list ds)=>(j_ ds).bind fun ss=>if ss.length < 4000∧(j7 ss).length < 64 then some (.ow ((fD (j7 ss)).map .str),a.2)else none
 |some (.str x)=>if (fE x).length < 4000∧(j7 (fE x)).length < 64 then some (.ow ((fD (j7 (fE x))).map .str),a.2)else none
 |_=>none
end PL
namespace NhSet
open PySem PyProof.Rows
structure SS (w:World) (b:Bool) (ks:List Str) (es:Array (Int×Value)) (t:SetTable):Prop where
 perm:(es.toList.map (fun e=>strOf e.2)).Perm ks
 elems:∀e∈es.toList,∃x tk,e=(hashStr w x,Value.str x tk)
 bound:es.size < scanBound
 fits:t.fits es.size=true
 led:t.led=b
 plain:es.size≠0→t.plain=false
abbrev cJ(es:Array (Int×Value))(ep:Nat)(t:SetTable):Obj:={cls:=.type "set",dict:=none,data:=.set es ep t}
def StrSet(w:World)(h:Heap)(a:Addr)(b:Bool)(ks:List Str):Prop:=∃es ep t,h.get? a=some (cJ es ep t)∧SS w b ks es t
theorem StrSet.at'{w:World}{b:Bool}(S:StrSet w h a b ks)(e:∀o,h.get? a=some o→h'.get? a=some o):StrSet w h' a b ks:=
 let ⟨es,ep,t,ho,r⟩:=S;⟨es,ep,t,e _ ho,r⟩
theorem StrSet.obj{w:World}{b:Bool}(S:StrSet w h a b ks):∃o,h.get? a=some o:=let ⟨_,_,_,ho,_⟩:=S;⟨_,ho⟩
theorem SS.elemsOf{prog:Program}{w:World}{b:Bool}{t:SetTable}(S:SS w b ks es t):ElemsOf (strKind prog w) es.toList:=fun e he=>by
 obtain⟨x,tk,rfl⟩:=S.elems e he
 exact⟨⟨x,by simp[PySem.strKind,Value.isStrOf],rfl⟩,rfl⟩
theorem SS.len{w:World}{b:Bool}{t:SetTable}(S:SS w b ks es t):es.size=ks.length:=by
 have:=S.perm.length_eq;simpa using this
theorem SS.mem{w:World}{b:Bool}{t:SetTable}(S:SS w b ks es t)(x:Str):x∈ks↔∃e∈es.toList,Value.isStrOf x e.2=true:=by
 rw[←S.perm.mem_iff,Zaz]
 constructor
 ·rintro⟨e,he,rfl⟩
  obtain⟨y,tk,rfl⟩:=S.elems e he
  exact⟨_,he,by simp[Value.isStrOf,strOf]⟩
 ·rintro⟨e,he,hx⟩
  obtain⟨y,tk,rfl⟩:=S.elems e he
  have:y=x:=by simpa[Value.isStrOf]using hx
  exact⟨_,he,by simp[strOf,this]⟩
theorem SetTable.orStandIn_led(t:SetTable)(n:Nat):(t.orStandIn n).led=t.led:=by
 unfold SetTable.orStandIn;split <;> rfl
theorem tZ(t:SetTable)(es:Array (Int×Value))(h:Int)(x:Value):(layNew t es h x).2.1.led=t.led:=by
 unfold layNew
 split
 ·exact SetTable.orStandIn_led _ _
 ·rfl
theorem t_{mask finger moves:Nat}{led plain:Bool}{hashes:Array Int}{t':SetTable}{order:Array Nat}(h:SetTable.laid mask finger moves led plain hashes=some (t',order)):t'.led=led∧t'.plain=plain:=by
 unfold SetTable.laid at h
 cases hc:SetTable.layClean mask hashes with
 |none=>rw[hc]at h;simp at h
 |some ow=>rw[hc]at h;simp at h;rw[←h.1];exact⟨rfl,rfl⟩
theorem nU(t:SetTable)(es:Array (Int×Value))(wanted:Nat)(hp:t.plain=false):(relayAll t es wanted).2.1.led=t.led∧(relayAll t es wanted).2.1.plain=false:=by
 unfold relayAll
 split
 ·rename_i t' order hr
  dsimp only
  split
  ·have:=t_ hr
   exact⟨this.1,this.2.trans hp⟩
  ·exact⟨rfl,rfl⟩
 ·exact⟨rfl,rfl⟩
section
variable {prog:Program} {w:World} {A:Around} {E:Value→Shared→Prop} {s:Shared}
theorem oY(es es':Array (Int×Value))(ep:Nat)(t t':SetTable):Obj.putSet es' t' (cJ es ep t)=cJ es' (ep+1) t':=rfl
theorem rQ{es':Array (Int×Value)}{t t':SetTable}(ho:h.get? a=some (cJ es ep t)):(h.update a (Obj.putSet es' t')).get? a=some (cJ es' (ep+1) t'):=
 Heap.get?_update_self (Obj.putSet es' t') ho (by rw[oY];rfl)
theorem wf{g:Bool→Sem Unit}(hg:∀(b:Bool) (s₁:Shared) (Q':Unit→Shared→Prop),Q' () s₁→wpAny (model prog w) A (g b) Q' E s₁)
     {t:SetTable} (ho:s.heap.get? a=some (cJ es ep t))
  {es1:Array (Int×Value)} {t2:SetTable} {b:Bool}  (S:SS w b ks es1 t2) (hp:t2.plain=false) {wasDummy:Bool} {R:Option Bool→Shared→Prop}
  (h:∀h',Heap.SameBut a s.heap h'→StrSet w h' a b ks→R (some true) {s with heap:=h'}):
  wpAny (model prog w) A (do
    storeSet a es1 t2
    if (!wasDummy&&t2.tooFull)=true then do
      g (relayAll t2 es1 (SetTable.grown es1.size)).2.2
      storeSet a (relayAll t2 es1 (SetTable.grown es1.size)).1 (relayAll t2 es1 (SetTable.grown es1.size)).2.1
      pure (some true)
     else pure (some true)) R E s:=by
 refine zz0 (wpAny_storeSet_of ho rfl ?_ (fits_of_scanBound S.bound))
 have ho1:=rQ (es':=es1) (t':=t2) ho
 have hsb1:=Heap.SameBut.update s.heap a (Obj.putSet es1 t2)
 split
 ·have hpm:=relayAll_perm t2 es1 (SetTable.grown es1.size)
  have hfr:=relayAll_fits t2 es1 (SetTable.grown es1.size)
  have hmk:=nU t2 es1 (SetTable.grown es1.size) hp
  generalize hRl:relayAll t2 es1 (SetTable.grown es1.size)=Rl at hpm hfr hmk ⊢
  obtain⟨es2,t3,gave2⟩:=Rl
  dsimp only at hpm hfr hmk ⊢
  have hsz:es2.size=es1.size:=by rw[←Array.length_toList,hpm.length_eq,Array.length_toList]
  have hb2:es2.size < scanBound:=by rw[hsz];exact S.bound
  have S2:SS w b ks es2 t3:=⟨(hpm.map _).trans S.perm,fun e he=>S.elems e (hpm.mem_iff.mp he),hb2,hfr,hmk.1.trans S.led,fun _=>hmk.2⟩
  refine zz0 (hg _ _ _ ?_)
  refine zz0 (wpAny_storeSet_of ho1 rfl ?_ (fits_of_scanBound hb2))
  exact zz1 (h _ (hsb1.trans (Heap.SameBut.update _ a _)) ⟨es2,_,t3,rQ ho1,S2⟩)
 ·exact zz1 (h _ hsb1 ⟨es1,_,t2,ho1,S⟩)
def mS(ks:List Str)(x:Str):List Str:=if x∈ks then ks else ks++[x]
theorem lU{b:Bool}{tk:Tok}{Q:Bool→Shared→Prop}(hS:StrSet w s.heap a b ks)(hroom:ks.length+1 < scanBound)
  (h:∀(r:Bool) h',Heap.SameBut a s.heap h'→StrSet w h' a b (mS ks x)→Q r {s with heap:=h'}):
  wpAny (model prog w) A (setAddHashed a (.str x tk) (hashStr w x)) Q E s:=by
 obtain⟨es,ep,t,ho,S⟩:=hS
 have hb1:es.size+1 < scanBound:=by rw[S.len];exact hroom
 have hel:=S.elemsOf (prog:=prog)
 have hkey:(strKind prog w).is x (.str x tk)=true:=by simp[PySem.strKind,Value.isStrOf]
 unfold setAddHashed setAddHashedIn
 refine zz7 (zz0 (wpAny_setState_of ho rfl S.fits ?_))
 dsimp only
 rw[byScan_of (knd:=strKind prog w) (x:=.str x tk) rfl S.bound hel]
 simp only[↓reduceIte]
 unfold setAddByScan
 refine zz0 ?_
 refine zz0 (wpAny_rule ?_)
 refine zz0 (wpAny_setScan_of (knd:=strKind prog w) hkey ho rfl S.fits hel ?_)
 cases hr:List.findIdx? (fun e=>(strKind prog w).is x e.2) es.toList with
 |some j=>
  dsimp only
  obtain⟨hj,hpj,_⟩:=List.findIdx?_eq_some_iff_getElem.mp hr
  have hk:x∈ks:=(S.mem x).mpr ⟨es.toList[j],List.getElem_mem hj,hpj⟩
  refine zz1 (zz1 ?_)
  have e:s={s with heap:=s.heap}:=by cases s;rfl
  rw[e]
  exact h _ s.heap (Heap.SameBut.refl a s.heap) (by rw[mS,if_pos hk];exact⟨es,ep,t,ho,S⟩)
 |none=>
  dsimp only
  have hk:x∉ks:=fun hk=>by
   obtain⟨e,he,hp⟩:=(S.mem x).mp hk
   have:=List.findIdx?_eq_none_iff.mp hr e he
   rw[show(strKind prog w).is x e.2=true from hp]at this;exact Bool.noConfusion this
  have hgw:∀(b:Bool) {s₁:Shared} {Q':Unit→Shared→Prop},Q' () s₁→wpAny (model prog w) A (match b with |true=>rule "set.scan.the-table-gave-way" |false=>pure ()) Q' E s₁:=
   fun b s₁ Q' hq=>by cases b <;> first |exact zz1 hq |exact wpAny_rule hq
  have hperm:=layNew_perm t es (hashStr w x) (.str x tk)
  have hfits:=layNew_fits t es (hashStr w x) (.str x tk)
  have hled:=tZ t es (hashStr w x) (.str x tk)
  generalize hL:layNew t es (hashStr w x) (.str x tk)=L at hperm hfits hled ⊢
  obtain⟨es1,t1,wasDummy,gave⟩:=L
  dsimp only at hperm hfits hled ⊢
  rw[Array.toList_push]at hperm
  have hb1':es1.size < scanBound:=by rw[←Array.length_toList,hperm.length_eq,qY,Array.length_toList];simpa using hb1
  have hpm:(es1.toList.map (fun e=>strOf e.2)).Perm (ks++[x]):=(hperm.map _).trans (by rw[List.map_append];exact S.perm.append_right _)
  have hel1:∀e∈es1.toList,∃x tk,e=(hashStr w x,Value.str x tk):=fun e he=>by
   rcases Zaf.mp (hperm.mem_iff.mp he)with z |z
   ·exact S.elems e z
   ·exact⟨x,tk,Zac.mp z⟩
  refine zz0 (hgw _ ?_)
  split
  ·refine zz0 ?_
   rw[hashByValue_scannable 8 (x:=.str x tk) rfl]
   refine zz1 ?_
   simp only[plainKind,Bool.false_eq_true,↓reduceIte]
   refine wf ?_ ho (t2:={t1 with plain:=false}) (ks:=mS ks x) (b:=b) ⟨by rw[mS,if_neg hk];exact hpm,hel1,hb1',SetTable.fits_plain_off hfits,hled.trans S.led,fun _=>rfl⟩ rfl ?_
   ·intro b s₁ Q' hq;cases b <;> first |exact zz1 hq |exact wpAny_rule hq
   ·intro h' hsb hS';dsimp only;exact zz1 (h _ h' hsb hS')
  ·rename_i hpl
   refine zz0 (zz1 ?_)
   simp only[↓reduceIte]
   have hpl':t1.plain=false:=by simpa using hpl
   refine wf ?_ ho (ks:=mS ks x) (b:=b) ⟨by rw[mS,if_neg hk];exact hpm,hel1,hb1',hfits,hled.trans S.led,fun _=>hpl'⟩ hpl' ?_
   ·intro b s₁ Q' hq;cases b <;> first |exact zz1 hq |exact wpAny_rule hq
   ·intro h' hsb hS';dsimp only;exact zz1 (h _ h' hsb hS')
end
def ko(val:Nat→Str)(i:Nat):List Str:=((List.range i).map val).foldl mS []
theorem pK(val:Nat→Str)(i:Nat):ko val (i+1)=mS (ko val i) (val i):=by
 unfold ko;rw[List.range_succ,List.map_append,List.foldl_append];rfl
theorem Av(ks:List Str)(x:Str):(mS ks x).length≤ks.length+1:=by
 unfold mS;split
 ·omega
 ·simp
theorem rR(val:Nat→Str):∀i,(ko val i).length≤i
 | 0=>eD _
 |i+1=>by rw[pK];have:=rR val i;have:=Av (ko val i) (val i);omega
section
variable {prog:Program} {w:World} {A:Around} {R:Result→Shared→Prop} {I:Addr} {fp wr:List Addr} {G:Array GenState→Array GenState→Prop} {n:Nat} {P:Nat→Value→Prop} {St:Nat→Shared→Prop}
theorem mF(W:WalksS prog w A.in1 I fp wr G n P St)(S:Addr)(hSf:S∉fp)(b:Bool)
  (val:Nat→Str) (hval:∀i v,P i v→∃t,v=.str (val i) t) (hb:n+1 < scanBound):
  ∀(k i:Nat) (s:Shared),n - i=k→i≤n→St i s→StrSet w s.heap S b (ko val i)→
   (∀s',Moved (S::wr) G s s'→StrSet w s'.heap S b (ko val n)→R (.ok (.ret .none)) s')→
   codeAny (model prog w) A (.builtin "set.update.loop" ⟨[.ref S,.ref I],[]⟩) R s:=by
 have hSw:S∉wr:=fun h=>hSf (W.sub _ h)
 have hsub:∀b∈wr,b∈S::wr:=fun b hb=>gW _ hb
 intro k
 induction k with
 |zero=>
  intro i s hk hi hst hS hR
  have hin:i=n:=by omega
  subst hin
  refine codeAny_builtin PyProof.Rows.F.entry_set_update_loop ?_
  rw[Around.under_plainId PyProof.Rows.F.plain_set_update_loop _]
  show wpAny _ A.in1 (pyNext (.ref I) >>= _) _ _ s
  refine zz0 (W.done s _ _ hst fun s' hm=>?_)
  show wpAny _ A.in1 (ret Value.none) _ _ s'
  exact zz1 (hR s' (hm.mono hsub) (hS.at' fun o e=>hm.heap S o hSw e))
 |succ k ih=>
  intro i s hk hi hst hS hR
  have hlt:i < n:=by omega
  refine codeAny_builtin PyProof.Rows.F.entry_set_update_loop ?_
  rw[Around.under_plainId PyProof.Rows.F.plain_set_update_loop _]
  show wpAny _ A.in1 (pyNext (.ref I) >>= _) _ _ s
  refine zz0 (W.item i s _ _ hlt hst fun v s' hP hst' hm=>?_)
  obtain⟨t,rfl⟩:=hval i v hP
  have hS':StrSet w s'.heap S b (ko val i):=hS.at' fun o e=>hm.heap S o hSw e
  show wpAny _ A.in1 (holding [Value.str (val i) t] (setAdd S (.str (val i) t)) >>= _) _ _ s'
  refine zz0 (zz7 ?_)
  unfold setAdd
  refine zz7 ?_
  refine zz0 (wpAny_pyHash_str ?_)
  have hroom:(ko val i).length+1 < scanBound:=by have:=rR val i;omega
  refine lU (s:={s' with toks:=s'.toks+1}) hS' hroom fun r h' hsb hS2=>?_
  refine zz1 ⟨plainId_quiet PyProof.Rows.F.plain_set_update_loop _,ih (i+1) _ (by omega) hlt (W.frame _ s' _ _ hst' (Nat.le_succ _) fun b hb o e=>?_) (by rw[pK];exact hS2) fun s'' hm'' hS''=>?_⟩
  ·rw[hsb.2 b (fun h:b=S=>hSf (by rw[←h];exact hb))];exact e
  ·refine hR s'' (Moved.trans W.gtrans ((hm.mono hsub).then_heap (Nat.le_succ _) fun b o hb e=>?_) hm'') hS''
   rw[hsb.2 b (fun h:b=S=>hb (by rw[h];exact jJ))];exact e
end
theorem k_(w:World)(led:Bool):SS w led [] #[] (.fresh 0 0 led):=⟨by simp,fun e he=>by simp at he,by decide,by rfl,rfl,fun h=>absurd rfl h⟩
def ka(w:World):Bool:= !w.params.followText "set-order"
section
variable {prog:Program} {w:World} {A:Around} {E:Value→Shared→Prop} {s:Shared}
theorem rS(a:Value){Q₁:Value→Shared→Prop}
  (h:Q₁ (.ref s.heap.objs.size) {s with heap:=s.heap.push (cJ #[] 0 (.fresh 0 0 (ka w)))}):
  codeAny (model prog w) A (.call (.builtin "set.__new__") ⟨[.type "set",a],[]⟩) (wants Q₁ E) s:=by
 refine codeAny_of_tree ?_
 show wpAny _ A.in1 (do checkBuiltinCall "set.__new__" ⟨[.type "set",a],[]⟩;again (.builtin "set.__new__" ⟨[.type "set",a],[]⟩)) _ _ s
 refine zz0 (wpAny_of_eq (PySem.F.newCall_set_1 a) (zz1 ⟨plainId_quiet PySem.F.plain_set_new _,codeAny_builtin PySem.F.entry_set_new ?_⟩))
 rw[Around.under_plainId PySem.F.plain_set_new _]
 unfold Builtin.«set.__new__» Builtin.Frozenset.newClass
 have hsub:=sub_set_self
 obtain⟨hp,g,d,tk,os⟩:=s
 dsimp only
 wp_walk
 refine wpAny_askSetting (zz1 ?_)
 dsimp only
 simp only[newObj]
 refine zz0 (wpAny_alloc (zz1 ?_))
 exact zz1 h
end
end NhSet
namespace NhSet
open PySem PyProof.Rows
namespace F
theorem rT:isSubtype (.type "str") (.type "set")=pure false:=by rw[isSubtype_type];kernel_rfl
theorem la:isSubtype (.type "str") (.type "frozenset")=pure false:=by rw[isSubtype_type];kernel_rfl
end F
section
variable {prog:Program} {w:World} {A:Around} {E:Value→Shared→Prop} {s:Shared}
theorem wg:∀{vs:List Value} {ns:List Str},StrsAre vs ns→∀(i:Nat) (v:Value),vs[i]? =some v→∃t,v=.str (ns.getD i ⟨#[]⟩) t
 |_,_,.nil,i,v,h=>by simp at h
 |_,_,.cons n t hr,0,v,h=>by simp at h;exact⟨t,by rw[←h];rfl⟩
 |_,_,.cons n t hr,i+1,v,h=>by
  simp only[Z3]at h
  obtain⟨t',e⟩:=wg hr i v h
  exact⟨t',by rw[e];rfl⟩
set_option maxHeartbeats 4000000 in
theorem xS{l:Addr}{items:Array Value}{ns:List Str}
  (hh:A.handled=none) (hl:s.heap.IsList l items) (hi:StrsAre items.toList ns) (hb:items.size+1 < scanBound)
  (h:∀(h':Heap) (tk:Nat),StrSet w h' s.heap.objs.size (ka w) (ko (fun i=>ns.getD i ⟨#[]⟩) items.size)→
   (∀b o,b < s.heap.objs.size→s.heap.get? b=some o→h'.get? b=some o)→Q (.ref s.heap.objs.size) {s with heap:=h',toks:=tk}):
  wpAny (model prog w) A (call (.type "set") [.ref l]) Q E s:=by
 obtain⟨c,tl,hmro⟩:=PySem.F.called_set.mro
 have hmade:=PySem.F.called_set.made
 have hsub:=PySem.F.called_set.sub
 refine wpAny_call (codeAny_of_tree ?_)
 show wpAny _ _ (callAny (.type "set") _) _ _ _
 refine zz1 ⟨Code.quiet_builtin _ (by decide+kernel),codeAny_builtin PySem.F.entry_type_call ?_⟩
 rw[Around.under_plain (weight_type_call_type "set" [.ref l] []) rfl]
 have h1:=PySem.F.called_set.notType
 have h2:=PySem.F.called_set.canCreate
 have hct:=PySem.F.typeCall_set_1 (.ref l)
 repeat (any_goals (first |assumption |wp_step))
 generalize hled:ka w=led at h
 refine codeAny_mono (rS (w:=w) (.ref l) (E:=E) (Q₁:=fun obj s₁=>obj=.ref s.heap.objs.size∧s₁={s with heap:=s.heap.push {cls:=.type "set",dict:=none,data:=.set #[] 0 (.fresh 0 0 led)}}) (by rw[hled];exact⟨rfl,rfl⟩)) fun r s₁ hr=>?_
 cases r with
 |error e=>exact hr
 |ok fl=>
  cases fl with
  |ret obj=>
   obtain⟨rfl,rfl⟩:=hr
   have hS:(s.heap.push {cls:=.type "set",dict:=none,data:=.set #[] 0 (.fresh 0 0 led)}).get? s.heap.objs.size=some {cls:=.type "set",dict:=none,data:=.set #[] 0 (.fresh 0 0 led)}:=kh _ rfl
   have hT:Shared.TypeIs {s with heap:=s.heap.push {cls:=.type "set",dict:=none,data:=.set #[] 0 (.fresh 0 0 led)}} (.ref s.heap.objs.size) "set":=⟨_,hS,rfl⟩
   have hli:=PySem.F.called_set.init.lookup
   have hbi:=PySem.F.called_set.init.bind (.ref s.heap.objs.size)
   repeat (any_goals (first |assumption |wp_step))
   refine codeAny_mono (codeAny_call_builtin (R:=wants (fun r s₂=>r=.none∧∃h' tk,s₂={s with heap:=h',toks:=tk}∧
     StrSet w h' s.heap.objs.size led (ko (fun i=>ns.getD i ⟨#[]⟩) items.size)∧
     (∀b o,b < s.heap.objs.size→s.heap.get? b=some o→h'.get? b=some o)) E) PySem.F.called_set.init.plain PySem.F.entry_set_init (check_set_init_1 hT ?_)) fun r₂ s₂ hr₂=>?_
   ·obtain⟨ol,hol,hcl,nl,hdl⟩:=hl
    obtain⟨ocls,odict,odata,oslots⟩:=ol
    simp only at hcl hdl
    subst hcl;subst hdl
    have hol':(s.heap.push {cls:=.type "set",dict:=none,data:=.set #[] 0 (.fresh 0 0 led)}).get? l=some {cls:=.type "list",dict:=odict,data:=.seq items nl,slots:=oslots}:=eT _ hol
    have hsls:=PySem.F.sub_list_set
    have hslf:=PySem.F.sub_list_frozenset
    have hne:(Value.type "list" == Value.type "dict")=false:=by decide
    have hl1:(s.heap.push {cls:=.type "set",dict:=none,data:=.set #[] 0 (.fresh 0 0 led)}).IsList l items:=⟨_,hol',rfl,nl,rfl⟩
    unfold Builtin.«set.__init__» noKeywords Builtin.Frozenset.updateFrom
    generalize hPI:pyIter=PI
    wp_walk
    subst hPI
    refine wpAny_pyIter_list hl1 ?_
    refine zz0 (wpAny_runValue ?_)
    have hlS:l < s.heap.objs.size:=eI hol
    have hh3:A.in1.in1.in1.handled=none:=by simp[hh]
    have hneI:l≠(s.heap.push {cls:=.type "set",dict:=none,data:=.set #[] 0 (.fresh 0 0 led)}).objs.size:=by
     rw[rk];exact eU (Zb hlS)
    have hSf:s.heap.objs.size∉[(s.heap.push {cls:=.type "set",dict:=none,data:=.set #[] 0 (.fresh 0 0 led)}).objs.size,l]:=by
     rw[rk];simp only[Zai,Zac,List.not_mem_nil,or_false,not_or]
     exact⟨eU (zzC _),Nat.ne_of_gt hlS⟩
    have hval:∀(i:Nat) (v:Value),items[i]? =some v→∃t,v=.str ((fun i=>ns.getD i ⟨#[]⟩) i) t:=fun i v hv=>
     wg hi i v (by rw[Array.getElem?_toList];exact hv)
    refine mF ((Walks.list hh3 _ l hneI items).toS) s.heap.objs.size
     hSf led (fun i=>ns.getD i ⟨#[]⟩) hval hb (items.size - 0) 0 _ (by omega) (zz9 _)
     ⟨⟨_,kh _ rfl,rfl,rfl⟩,(hl1.push _)⟩ ?hS0 ?hR
    case hS0=>
     have hget:((s.heap.push {cls:=.type "set",dict:=none,data:=.set #[] 0 (.fresh 0 0 led)}).push {cls:=.type "list_iterator",data:=.fields #[.ref l,.int 0 0]}).get? s.heap.objs.size
       =some {cls:=.type "set",dict:=none,data:=.set #[] 0 (.fresh 0 0 led)}:=eT _ hS
     exact⟨_,_,_,hget,k_ w led⟩
    case hR=>
     intro s' hm hS'
     obtain⟨h',g',d',tk',os'⟩:=s'
     have eg:g'=s.gens:=hm.gens
     have ed:d'=s.drawn:=hm.drawn
     have eo:os'=s.os:=hm.os
     subst eg;subst ed;subst eo
     show wpAny _ _ _ _ _ _
     refine zz1 ?_
     show wpAny _ _ (ret Value.none) _ _ _
     refine zz1 ⟨rfl,h',tk',rfl,hS',fun b o hb e=>?_⟩
     have hb1:b≠s.heap.objs.size:=eU hb
     have hb2:b≠(s.heap.push {cls:=.type "set",dict:=none,data:=.set #[] 0 (.fresh 0 0 led)}).objs.size:=by
      rw[rk];exact eU (Zb hb)
     exact hm.heap b o (by simp only[Zai,Zac,List.not_mem_nil,or_false,not_or];exact⟨hb1,hb2⟩) (eT _ (eT _ e))
   ·cases r₂ with
    |error e=>exact hr₂
    |ok fl₂=>
     cases fl₂ with
     |ret r=>
      obtain⟨rfl,h',tk,rfl,hS',hk'⟩:=hr₂
      repeat (any_goals (first |assumption |wp_step))
      exact h _ _ hS' hk'
     |_=>exact hr₂.elim
  |_=>exact hr.elim
def ii(x:Str)(i:Nat):Str:=⟨#[x.cps.getD i 0]⟩
set_option maxHeartbeats 4000000 in
theorem Aw{t:Tok}
  (hh:A.handled=none) (hb:x.cps.size+1 < scanBound)
  (h:∀(h':Heap) (tk:Nat),StrSet w h' s.heap.objs.size (ka w) (ko (ii x) x.cps.size)→
   (∀b o,b < s.heap.objs.size→s.heap.get? b=some o→h'.get? b=some o)→Q (.ref s.heap.objs.size) {s with heap:=h',toks:=tk}):
  wpAny (model prog w) A (call (.type "set") [.str x t]) Q E s:=by
 obtain⟨c,tl,hmro⟩:=PySem.F.called_set.mro
 have hmade:=PySem.F.called_set.made
 have hsub:=PySem.F.called_set.sub
 refine wpAny_call (codeAny_of_tree ?_)
 show wpAny _ _ (callAny (.type "set") _) _ _ _
 refine zz1 ⟨Code.quiet_builtin _ (by decide+kernel),codeAny_builtin PySem.F.entry_type_call ?_⟩
 rw[Around.under_plain (weight_type_call_type "set" [.str x t] []) rfl]
 have h1:=PySem.F.called_set.notType
 have h2:=PySem.F.called_set.canCreate
 have hct:=PySem.F.typeCall_set_1 (.str x t)
 repeat (any_goals (first |assumption |wp_step))
 generalize hled:ka w=led at h
 refine codeAny_mono (rS (w:=w) (.str x t) (E:=E) (Q₁:=fun obj s₁=>obj=.ref s.heap.objs.size∧s₁={s with heap:=s.heap.push {cls:=.type "set",dict:=none,data:=.set #[] 0 (.fresh 0 0 led)}}) (by rw[hled];exact⟨rfl,rfl⟩)) fun r s₁ hr=>?_
 cases r with
 |error e=>exact hr
 |ok fl=>
  cases fl with
  |ret obj=>
   obtain⟨rfl,rfl⟩:=hr
   have hS:(s.heap.push {cls:=.type "set",dict:=none,data:=.set #[] 0 (.fresh 0 0 led)}).get? s.heap.objs.size=some {cls:=.type "set",dict:=none,data:=.set #[] 0 (.fresh 0 0 led)}:=kh _ rfl
   have hT:Shared.TypeIs {s with heap:=s.heap.push {cls:=.type "set",dict:=none,data:=.set #[] 0 (.fresh 0 0 led)}} (.ref s.heap.objs.size) "set":=⟨_,hS,rfl⟩
   have hli:=PySem.F.called_set.init.lookup
   have hbi:=PySem.F.called_set.init.bind (.ref s.heap.objs.size)
   repeat (any_goals (first |assumption |wp_step))
   refine codeAny_mono (codeAny_call_builtin (R:=wants (fun r s₂=>r=.none∧∃h' tk,s₂={s with heap:=h',toks:=tk}∧
     StrSet w h' s.heap.objs.size led (ko (ii x) x.cps.size)∧
     (∀b o,b < s.heap.objs.size→s.heap.get? b=some o→h'.get? b=some o)) E) PySem.F.called_set.init.plain PySem.F.entry_set_init (check_set_init_1 hT ?_)) fun r₂ s₂ hr₂=>?_
   ·have hsls:=F.rT
    have hslf:=F.la
    have hne:(Value.type "str" == Value.type "dict")=false:=by decide
    have hTx:Shared.TypeIs {s with heap:=s.heap.push {cls:=.type "set",dict:=none,data:=.set #[] 0 (.fresh 0 0 led)}} (.str x t) "str":=rfl
    unfold Builtin.«set.__init__» noKeywords Builtin.Frozenset.updateFrom
    generalize hPI:pyIter=PI
    wp_walk
    subst hPI
    refine wpAny_pyIter_str fun o St W hst=>?_
    refine zz0 (wpAny_runValue ?_)
    have hh3:A.in1.in1.in1.handled=none:=by simp[hh]
    have hSf:s.heap.objs.size∉[(s.heap.push {cls:=.type "set",dict:=none,data:=.set #[] 0 (.fresh 0 0 led)}).objs.size]:=by
     rw[rk];simp only[Zai,Zac,List.not_mem_nil,or_false,not_or]
     exact eU (zzC _)
    have hval:∀(i:Nat) (v:Value),SignAt x i v→∃t,v=.str (ii x i) t:=fun i v ⟨c,u,hc,hv⟩=>⟨u,by rw[hv];simp[ii,Array.getD_eq_getD_getElem?,hc]⟩
    refine mF ((W _ hh3).toS) s.heap.objs.size
     hSf led (ii x) hval hb (x.cps.size - 0) 0 _ (by omega) (zz9 _) hst ?hS0 ?hR
    case hS0=>exact⟨_,_,_,eT _ hS,k_ w led⟩
    case hR=>
     intro s' hm hS'
     obtain⟨h',g',d',tk',os'⟩:=s'
     have eg:g'=s.gens:=hm.gens
     have ed:d'=s.drawn:=hm.drawn
     have eo:os'=s.os:=hm.os
     subst eg;subst ed;subst eo
     show wpAny _ _ _ _ _ _
     refine zz1 ?_
     show wpAny _ _ (ret Value.none) _ _ _
     refine zz1 ⟨rfl,h',tk',rfl,hS',fun b o hb e=>?_⟩
     have hb1:b≠s.heap.objs.size:=eU hb
     have hb2:b≠(s.heap.push {cls:=.type "set",dict:=none,data:=.set #[] 0 (.fresh 0 0 led)}).objs.size:=by
      rw[rk];exact eU (Zb hb)
     exact hm.heap b o (by simp only[Zai,Zac,List.not_mem_nil,or_false,not_or];exact⟨hb1,hb2⟩) (eT _ (eT _ e))
   ·cases r₂ with
    |error e=>exact hr₂
    |ok fl₂=>
     cases fl₂ with
     |ret r=>
      obtain⟨rfl,h',tk,rfl,hS',hk'⟩:=hr₂
      repeat (any_goals (first |assumption |wp_step))
      exact h _ _ hS' hk'
     |_=>exact hr₂.elim
  |_=>exact hr.elim
end
end NhSet
namespace NhSet
open PySem PyProof.Rows
theorem kq:∀{l:List α} {i:Nat} (h:i < l.length),(l[i]::l.eraseIdx i).Perm l
 |x::xs,0,h=>List.Perm.refl _
 |x::xs,i+1,h=>by
  have:=kq (l:=xs) (i:=i) (by simpa using h)
  simp only[List.getElem_cons_succ,List.eraseIdx_cons_succ]
  exact(List.Perm.swap x _ _).trans (this.cons x)
theorem pL(next:Nat→Nat):∀(fuel k:Nat) (left:List α) (out:Array α),left.length=fuel→(pickOrder.go next fuel k left out).toList.Perm (out.toList++left)
 | 0,k,left,out,h=>by
  have:left=[]:=List.length_eq_zero_iff.mp h
  subst this;simp[pickOrder.go]
 |fuel+1,k,left,out,h=>by
  unfold pickOrder.go
  have hlt:next k % left.length < left.length:=Nat.mod_lt _ (by omega)
  rw[oU hlt]
  dsimp only
  refine(pL next fuel (k+1) _ _ (by rw[List.length_eraseIdx_of_lt hlt];omega)).trans ?_
  rw[Array.toList_push,List.append_assoc]
  exact(kq hlt).append_left _
theorem nX(next:Nat→Nat)(xs:Array α):(pickOrder next xs).toList.Perm xs.toList:=by
 have:=pL next xs.size 0 xs.toList #[] (by simp)
 simpa[pickOrder]using this
section
variable {M:Model} {A:Around} {E:Value→Shared→Prop}
theorem qx{src:Source}{s:Shared}{Q:Nat→Shared→Prop}(hn:n≠0)(h:∀i d,i < n→Q i {s with drawn:=d}):wpAny M A (choose src n) Q E s:=fun Γ p hΓ=>by
 show Sem.wp M Γ (.choose src n .pure) _ _ p s
 rw[Sem.wp_choose]
 exact⟨hn,by rw[Sem.wp_pure];exact h _ _ (Nat.mod_lt _ (Nat.pos_of_ne_zero hn))⟩
theorem iO:∀(n:Nat) (xs:List α) (s:Shared) {Q:List α→Shared→Prop},xs.length=n→(∀ys d,ys.Perm xs→Q ys {s with drawn:=d})→wpAny M A (drawOrder n xs) Q E s
 | 0,xs,s,Q,hl,h=>by
  have:xs=[]:=List.length_eq_zero_iff.mp hl
  subst this
  exact zz1 (h [] s.drawn (List.Perm.refl _))
 |n+1,[],s,Q,hl,h=>by simp at hl
 |n+1,x::xs,s,Q,hl,h=>by
  show wpAny M A (choose .order (x::xs).length >>= _) Q E s
  refine zz0 (qx (by simp) fun i d hi=>?_)
  rw[oU hi]
  dsimp only
  refine zz0 (iO n _ _ (by rw[List.length_eraseIdx_of_lt hi];simpa using hl) fun ys d' hp=>?_)
  exact zz1 (h _ d' ((hp.cons _).trans (kq hi)))
end
namespace F
theorem nZ:entryFor table "set.__iter__"=some Builtin.«frozenset.__iter__»:=
 entryFor_alias (id':="frozenset.__iter__") (by kernel_rfl) rfl (by decide+kernel) (by kernel_rfl)
theorem slot_next:Slot "set_iterator" "__next__" "set_iterator.__next__":=
 .of (owner:="set_iterator") (n:="__next__") (by rw[typeLookup_type,builtinLookup_eq_fast];kernel_rfl) (by decide+kernel) (by decide+kernel) (by decide+kernel)
  (by first |exact .inl (by decide+kernel) |exact .inr (by decide+kernel)) (by rw[isSubtype_type];kernel_rfl)
theorem uA:entryFor table "set_iterator.__next__"=some Builtin.«set_iterator.__next__»:=entryFor_of_fast (by kernel_rfl)
theorem xT(a:Value):argsOk "set_iterator.__next__" ⟨[a],[]⟩:=by unfold argsOk;kernel_rfl
theorem pM:Slot "set_iterator" "__iter__" "set_iterator.__iter__":=
 .of (owner:="set_iterator") (n:="__iter__") (by rw[typeLookup_type,builtinLookup_eq_fast];kernel_rfl) (by decide+kernel) (by decide+kernel) (by decide+kernel)
  (by first |exact .inl (by decide+kernel) |exact .inr (by decide+kernel)) (by rw[isSubtype_type];kernel_rfl)
theorem uB:entryFor table "set_iterator.__iter__"=some Builtin.«dict_keyiterator.__iter__»:=
 entryFor_alias (id':="dict_keyiterator.__iter__") (by kernel_rfl) rfl (by decide+kernel) (by kernel_rfl)
theorem xU(a:Value):argsOk "set_iterator.__iter__" ⟨[a],[]⟩:=by unfold argsOk;kernel_rfl
end F
abbrev rV(first:Value)(i:Nat)(a:Addr)(n ep:Nat):Obj:={cls:=.type "set_iterator",data:=.fields #[first,.int i 0,.ref a,.int n 0,.int ep 0]}
section
variable {prog:Program} {w:World} {A:Around} {E:Value→Shared→Prop} {s:Shared}
theorem qy{first:Value}{i:Nat}(ho:s.heap.get? I=some (rV first i a n ep))(h:Q (.ref I) s):wpAny (model prog w) A (pyIter (.ref I)) Q E s:=by
 have hT:s.TypeIs (.ref I) "set_iterator":=⟨_,ho,rfl⟩
 refine wpAny_pyIter_slot hT F.pM (wpAny_call_entry F.pM hT F.uB ?_ (F.xU _))
 show wpAny _ _ (ret (.ref I)) _ _ s
 exact zz1 ⟨_,rfl,"set_iterator",_,hT,F.slot_next.lookup,h⟩
theorem rW{t:SetTable}{Q:Bool→Shared→Prop}(ho:s.heap.get? a=some (cJ es ep t))(hf:t.fits es.size=true)
  (h:Q (!(w.params.followText "set-order")&&(!t.plain&&decide (es.size > 1))) s):wpAny (model prog w) A (setDrawn a) Q E s:=by
 unfold setDrawn setsByText
 refine zz0 (wpAny_setState_of ho rfl hf ?_)
 dsimp only
 refine zz0 (zz0 (wpAny_askSetting (zz1 ?_)))
 exact zz1 h
theorem qz{Q:Option Value→Shared→Prop}(hh:A.handled=none){o:Obj}(hQ:∀h',Heap.ExtBut I s.heap h'→Q none {s with heap:=h'}){h1:Heap}(k:Heap.ExtBut I s.heap h1):
  wpAny (model prog w) A.in1 (newExc (.type "StopIteration") [] >>= fun e=>raiseNew e) (fun(fin:Fin) s'=>∃r,fin=.done (.ret r)∧wpAny (model prog w) A (pure (some r)) Q E s')
   (fun e s'=>wpAny (model prog w) A (isInstance e (.type "StopIteration") >>= fun b=>if b=true then pure none else throw e) Q E s') {s with heap:=h1}:=by
 refine zz0 ?_
 simp only[newExc,newTuple]
 refine zz0 (wpAny_newObj_type ?_ (by size_fits))
 refine zz0 (m:=firstArgMember _ _) (wpAny_of_eq (a:=Value.none) (by first |rfl |(simp only[firstArgMember];rfl)) ?_)
 refine wpAny_newObj_type ?_ (by size_fits)
 simp only[raiseNew]
 refine zz0 (wpAny_handled ?_)
 rw[show A.in1.handled=none from hh]
 refine zz0 (zz1 (wpAny_throw ?_))
 refine zz0 (wpAny_isInstance (T:="StopIteration") (b:=true) ⟨_,kh _ rfl,rfl⟩ isSubtype_stop ?_)
 exact zz1 (hQ _ ((k.push _).push _))
end
end NhSet
namespace NhSet
open PySem PyProof.Rows
section
variable {prog:Program} {w:World} {A:Around} {E:Value→Shared→Prop} {s:Shared}
theorem fc{first:Value}{i:Nat}{Q:Option Value→Shared→Prop}(hI:s.heap.get? I=some (rV first i a n ep)){t:SetTable}(ha:s.heap.get? a=some (cJ es ep t))(hf:t.fits es.size=true)(hn:es.size=n)
  (h:wpAny (model prog w) A.in1 (if let .int slot _:=first then do
    match ←setNext a slot.toNat i ep with
    |some (x,next)=>do
     setField (.ref I) 0 (rawInt next)
     setField (.ref I) 1 (rawInt (i+1))
     ret x
    |none=>do setField (.ref I) 2 .none;raiseNew (←newExc (.type "StopIteration") [])
   else do
    let some places ←seqItems? first |unsupported "internal:set_iterator"
    match places[i]? with
    |some (.int place _)=>do
     let x ←setNextDrawn a place.toNat ep
     setField (.ref I) 1 (rawInt (i+1))
     ret x
    |some _=>unsupported "internal:set_iterator"
    |none=>do setField (.ref I) 0 (rawInt 0);setField (.ref I) 2 .none;raiseNew (←newExc (.type "StopIteration") []))
   (fun(fin:Fin) s'=>∃r,fin=.done (.ret r)∧wpAny (model prog w) A (pure (some r)) Q E s')
   (fun e s'=>wpAny (model prog w) A (isInstance e (.type "StopIteration") >>= fun b=>if b=true then pure none else throw e) Q E s') s):
  wpAny (model prog w) A (pyNext (.ref I)) Q E s:=by
 have hT':s.TypeIs (.ref I) "set_iterator":=⟨_,hI,rfl⟩
 unfold pyNext
 refine zz0 (wpAny_attempt (wpAny_callSpecial?_slot (name:=Str.ofString "__next__") hT' F.slot_next (wpAny_call_entry F.slot_next hT' F.uA ?_ (F.xT _))))
 unfold Builtin.«set_iterator.__next__»
 refine zz0 (m:=slotArgs _ _ _) (zz1 ?_)
 refine zz0 (wpAny_fieldsOf hI rfl ?_)
 dsimp only
 refine zz0 (wpAny_setEntries_of ha rfl hf ?_)
 rw[if_neg (by simp[hn])]
 exact h
abbrev D2(es:Array (Int×Value))(j:Nat):Value:=(es.getD j (0,.none)).2
theorem cA{vs:Array Value}{x:Value}{Q:Unit→Shared→Prop}(ho:s.heap.get? I=some o)(hd:o.data=.fields vs)(hk:k < vs.size)(hQ:∀h',Heap.SameBut I s.heap h'→h'.get? I=some {o with data:=.fields (vs.setIfInBounds k x)}→Q () {s with heap:=h'}):wpAny (model prog w) A (setField (.ref I) k x) Q E s:=by
 refine wpAny_setField ho hd hk (hQ _ (Heap.SameBut.update ..) ?_)
 have:=Heap.get?_update_self (Obj.mapFields fun vs=>vs.setIfInBounds k x) ho (Obj.isFreed_of_fields (Obj.data_mapFields hd _))
 rw[this]
 obtain⟨c,d,dt,sl⟩:=o
 simp only at hd
 subst hd
 rfl
theorem uC(hh:A.handled=none){t:SetTable}(π:List Nat)(hp:∀j∈π,j < es.size)(hl:π.length=es.size)(hf:t.fits es.size=true)(hTI:T≠I)(haI:a≠I):
  Walks prog w A I [I,T,a] [I] (π.map (D2 es)).length (fun i v=>(π.map (D2 es))[i]? =some v)
   (fun i h=>h.get? I=some (rV (.ref T) i a es.size ep)∧h.get? T=some {cls:=.type "tuple",data:=.seq (π.map fun(i:Nat)=>rawInt i).toArray}∧h.get? a=some (cJ es ep t)) where
 sub:=fun b hb=>by simp at hb;simp[hb]
 frame:=fun _ _ _ st hk=>⟨hk I (by simp) _ st.1,hk T (by simp) _ st.2.1,hk a (by simp) _ st.2.2⟩
 self:=fun _ _ _ _ st hQ=>qy st.1 hQ
 item:=fun i s Q E hi st hQ=>by
  obtain⟨hI,hT,ha⟩:=st
  rw[fw]at hi
  refine fc hI ha hf rfl ?_
  dsimp only
  refine zz0 (wpAny_seqItems hT rfl ?_)
  dsimp only
  have e:(π.map fun(i:Nat)=>rawInt i).toArray[i]? =some (.int (π[i]:Nat) 0):=by
   simp[hi,rawInt]
  rw[e]
  dsimp only
  have hj:=hp π[i] (List.getElem_mem hi)
  unfold setNextDrawn
  refine zz0 (zz0 (wpAny_setState_of ha rfl hf ?_))
  dsimp only
  rw[if_neg (by simp)]
  have e2:es[((π[i]:Nat):Int).toNat]? =some (es[π[i]]):=by simp[hj]
  rw[e2]
  refine zz1 ?_
  refine zz0 (cA hI rfl (by simp) fun h' hs' ho'=>?_)
  refine zz1 ⟨_,rfl,zz1 (hQ _ h' s.toks ?_ ⟨?_,?_,?_⟩ fun b o hb e=>hs'.extBut b o (fun z=>hb (by simp[z])) e)⟩
  ·simp[hi,D2,hj]
  ·rw[ho'];simp[rawInt]
  ·exact hs'.extBut T _ hTI hT
  ·exact hs'.extBut a _ haI ha
 done:=fun s Q E st hQ=>by
  obtain⟨hI,hT,ha⟩:=st
  refine fc hI ha hf rfl ?_
  dsimp only
  refine zz0 (wpAny_seqItems hT rfl ?_)
  dsimp only
  have e:(π.map fun(i:Nat)=>rawInt i).toArray[(π.map (D2 es)).length]? =none:=by simp
  rw[e]
  dsimp only
  refine zz0 (cA hI rfl (by simp) fun h' hs' ho'=>?_)
  refine zz0 (cA (s:={s with heap:=h'}) ho' rfl (by simp) fun h2 hs2 _=>?_)
  exact qz (I:=I) (o:=cJ es ep t) hh (fun h3 k=>hQ h3 s.toks fun b o hb e=>k b o (fun z=>hb (by simp[z])) e) (hs'.trans hs2).extBut
theorem lg{t:SetTable} {slot given:Nat} {Q:Option (Value×Nat)→Shared→Prop} (hb:w.params.followText "set-order"=true) (ha:s.heap.get? a=some (cJ es ep t)) (hf:t.fits es.size=true)
  (h:Q (((pickOrder (w.params.setOrder a ep) es)[given]?).map fun e=>(e.2,slot)) s):wpAny (model prog w) A (setNext a slot given ep) Q E s:=by
 unfold setNext setsByText
 refine zz0 (wpAny_setState_of ha rfl hf ?_)
 dsimp only
 refine zz0 (zz0 (wpAny_askSetting (zz1 ?_)))
 rw[if_pos (show(model prog w).w.params.followText "set-order"=true from hb)]
 rw[if_neg (by simp)]
 refine zz0 ?_
 unfold setWalk setsByText
 refine zz0 (wpAny_setState_of ha rfl hf ?_)
 dsimp only
 refine zz0 (zz0 (wpAny_askSetting (zz1 ?_)))
 rw[if_pos (show(model prog w).w.params.followText "set-order"=true from hb)]
 refine zz0 (wpAny_askSetting (zz1 ?_))
 exact zz1 h
theorem mG{t:SetTable} {slot given:Nat} {Q:Option (Value×Nat)→Shared→Prop} (hb:w.params.followText "set-order"=false) (hsz:es.size≤1) (hled:t.led=true) (ha:s.heap.get? a=some (cJ es ep t)) (hf:t.fits es.size=true)
  (h:Q (match es[SetTable.below t.place slot]?,t.place[SetTable.below t.place slot]? with |some (_,x),some j=>some (x,j+1) |_,_=>none) s):wpAny (model prog w) A (setNext a slot given ep) Q E s:=by
 unfold setNext setsByText
 refine zz0 (wpAny_setState_of ha rfl hf ?_)
 dsimp only
 refine zz0 (zz0 (wpAny_askSetting (zz1 ?_)))
 rw[if_neg (show ¬((model prog w).w.params.followText "set-order"=true) by show ¬(w.params.followText "set-order"=true);rw[hb];decide)]
 have hd:(!t.plain&&decide (es.size > 1))=false:=by rw[zz3 (by omega)];simp
 show wpAny _ _ (if (!t.plain&&decide (es.size > 1))=true then _ else _) _ _ _
 rw[hd,if_neg (by decide)]
 show wpAny _ _ ((if (!t.led&& !es.isEmpty)=true then unsupported "set:maker-not-led" else pure PUnit.unit) >>= _) _ _ _
 rw[hled,if_neg (by simp)]
 refine zz0 (zz1 ?_)
 exact zz1 h
theorem xV(hh:A.handled=none)    {t:SetTable} (hb:w.params.followText "set-order"=true) (hf:t.fits es.size=true) (haI:a≠I):
  Walks prog w A I [I,a] [I] ((pickOrder (w.params.setOrder a ep) es).toList.map (·.2)).length (fun i v=>((pickOrder (w.params.setOrder a ep) es).toList.map (·.2))[i]? =some v)
   (fun i h=>h.get? I=some (rV (.int 0 0) i a es.size ep)∧h.get? a=some (cJ es ep t)) where
 sub:=fun b hb=>by simp at hb;simp[hb]
 frame:=fun _ _ _ st hk=>⟨hk I (by simp) _ st.1,hk a (by simp) _ st.2⟩
 self:=fun _ _ _ _ st hQ=>qy st.1 hQ
 item:=fun i s Q E hi st hQ=>by
  obtain⟨hI,ha⟩:=st
  have hi':i < (pickOrder (w.params.setOrder a ep) es).size:=by simpa using hi
  refine fc hI ha hf rfl ?_
  dsimp only
  refine zz0 (lg hb ha hf ?_)
  rw[Array.getElem?_eq_getElem hi']
  dsimp only[Z1]
  refine zz0 (cA hI rfl (by simp) fun h' hs' ho'=>?_)
  refine zz0 (cA (s:={s with heap:=h'}) ho' rfl (by simp) fun h2 hs2 ho2=>?_)
  refine zz1 ⟨_,rfl,zz1 (hQ _ h2 s.toks ?_ ⟨?_,?_⟩ fun b o hb e=>(hs'.trans hs2).extBut b o (fun z=>hb (by simp[z])) e)⟩
  ·simp[hi']
  ·rw[ho2];simp[rawInt]
  ·exact(hs'.trans hs2).extBut a _ haI ha
 done:=fun s Q E st hQ=>by
  obtain⟨hI,ha⟩:=st
  refine fc hI ha hf rfl ?_
  dsimp only
  refine zz0 (lg hb ha hf ?_)
  rw[show(pickOrder (w.params.setOrder a ep) es)[((pickOrder (w.params.setOrder a ep) es).toList.map (·.2)).length]? =none by simp]
  dsimp only[Option.map_none]
  refine zz0 (cA hI rfl (by simp) fun h' hs' ho'=>?_)
  exact qz (I:=I) (o:=cJ es ep t) hh (fun h3 k=>hQ h3 s.toks fun b o hb e=>k b o (fun z=>hb (by simp[z])) e) hs'.extBut
theorem n4{xs:Array Nat}(h:xs.size≤1):SetTable.below xs 0=0:=by
 obtain⟨l⟩:=xs
 match l,h with
 |[],_=>rfl
 |[p],_=>simp[SetTable.below,SetTable.below.go]
theorem uD{p:Nat}:SetTable.below #[p] (p+1)=1:=by simp[SetTable.below,SetTable.below.go]
theorem Ax(hh:A.handled=none)    {t:SetTable} (hb:w.params.followText "set-order"=false) (hsz:es.size≤1) (hled:t.led=true) (hf:t.fits es.size=true) (haI:a≠I):
  Walks prog w A I [I,a] [I] (es.toList.map (·.2)).length (fun i v=>(es.toList.map (·.2))[i]? =some v)
   (fun i h=>h.get? I=some (rV (.int (if i=0 then 0 else (t.place.getD 0 0+1:Nat)) 0) i a es.size ep)∧h.get? a=some (cJ es ep t)) where
 sub:=fun b hb=>by simp at hb;simp[hb]
 frame:=fun _ _ _ st hk=>⟨hk I (by simp) _ st.1,hk a (by simp) _ st.2⟩
 self:=fun _ _ _ _ st hQ=>qy st.1 hQ
 item:=fun i s Q E hi st hQ=>by
  obtain⟨hI,ha⟩:=st
  have hi':i < es.size:=by simpa using hi
  have hi0:i=0:=by omega
  subst hi0
  rw[if_pos rfl]at hI
  have hps:t.place.size=es.size:=by
   have:=hf;simp only[SetTable.fits,qZ,beq_iff_eq]at this;exact this.1
  refine fc hI ha hf rfl ?_
  dsimp only
  refine zz0 (mG hb hsz hled ha hf ?_)
  rw[show((0:Int)).toNat=0 from rfl,n4 (by omega),Array.getElem?_eq_getElem hi',Array.getElem?_eq_getElem (show 0 < t.place.size by omega)]
  dsimp only
  refine zz0 (cA hI rfl (by simp) fun h' hs' ho'=>?_)
  refine zz0 (cA (s:={s with heap:=h'}) ho' rfl (by simp) fun h2 hs2 ho2=>?_)
  refine zz1 ⟨_,rfl,zz1 (hQ _ h2 s.toks ?_ ⟨?_,?_⟩ fun b o hb e=>(hs'.trans hs2).extBut b o (fun z=>hb (by simp[z])) e)⟩
  ·simp[hi']
  ·rw[ho2]
   have:t.place.getD 0 0=t.place[0]:=by simp[Array.getD,show 0 < t.place.size by omega]
   simp[rawInt,this]
  ·exact(hs'.trans hs2).extBut a _ haI ha
 done:=fun s Q E st hQ=>by
  obtain⟨hI,ha⟩:=st
  have hps:t.place.size=es.size:=by
   have:=hf;simp only[SetTable.fits,qZ,beq_iff_eq]at this;exact this.1
  have hlen:(es.toList.map (·.2)).length=es.size:=by simp
  rw[hlen]at hI
  refine fc hI ha hf rfl ?_
  dsimp only
  refine zz0 (mG hb hsz hled ha hf ?_)
  have hno:(match es[SetTable.below t.place (if es.size=0 then (0:Int)else ((t.place.getD 0 0+1:Nat):Int)).toNat]?,t.place[SetTable.below t.place (if es.size=0 then (0:Int)else ((t.place.getD 0 0+1:Nat):Int)).toNat]? with |some (_,x),some j=>some (x,j+1) |_,_=>(none:Option (Value×Nat)))=none:=by
   by_cases z:es.size=0
   ·rw[if_pos z,show((0:Int)).toNat=0 from rfl,n4 (by omega),Array.getElem?_eq_none (by omega)]
   ·rw[if_neg z]
    obtain⟨⟨p⟩,hp⟩:∃q:{p:Nat // t.place=#[p]},True:=by
     generalize t.place=pl at hps
     obtain⟨l⟩:=pl
     match l,hps with
     |[],h=>simp at h;omega
     |[p],h=>exact⟨⟨p,rfl⟩,trivial⟩
     |_::_::_,h=>simp at h;omega
    rename_i hpl
    rw[hpl]
    simp only[Int.toNat_natCast]
    have:(#[p]:Array Nat).getD 0 0=p:=rfl
    rw[this,uD,Array.getElem?_eq_none (show es.size≤1 by omega)]
  rw[hno]
  dsimp only
  refine zz0 (cA hI rfl (by simp) fun h' hs' ho'=>?_)
  exact qz (I:=I) (o:=cJ es ep t) hh (fun h3 k=>hQ h3 s.toks fun b o hb e=>k b o (fun z=>hb (by simp[z])) e) hs'.extBut
theorem Ay{t:SetTable}(ha:s.heap.get? a=some (cJ es ep t))(S:SS w (ka w) ks es t)
  (hQ:∀(s':Shared) (I:Addr) (fp:List Addr) (St:Nat→Heap→Prop) (items:List Value),(∀b o,s.heap.get? b=some o→s'.heap.get? b=some o)→s.heap.objs.size≤s'.heap.objs.size→s'.gens=s.gens→s'.os=s.os→s'.toks=s.toks→(∀b∈fp,b=a∨s.heap.objs.size≤b)→s.heap.objs.size≤I→
   (∀A':Around,A'.handled=none→Walks prog w A' I fp [I] items.length (fun i v=>items[i]? =some v) St)→St 0 s'.heap→items.Perm (es.toList.map (·.2))→Q (.ref I) s'):
  wpAny (model prog w) A (pyIter (.ref a)) Q E s:=by
 have hT:s.TypeIs (.ref a) "set":=⟨_,ha,rfl⟩
 have hlt:a < s.heap.objs.size:=eI ha
 refine wpAny_pyIter_slot hT PySem.F.slot_set_iter (wpAny_call_entry PySem.F.slot_set_iter hT F.nZ ?_ (PySem.F.args_set_iter_1 _))
 unfold Builtin.«frozenset.__iter__» Builtin.Frozenset.slot0 slotArgs
 simp only[List.isEmpty_nil,↓reduceIte,bind_assoc,Z5,bne_self_eq_false,hW]
 unfold Builtin.Frozenset.addrOf Builtin.Frozenset.sizeOf
 refine zz0 (zz1 ?_)
 try dsimp only
 refine zz0 (zz1 ?_)
 refine zz0 (zz0 (wpAny_setEntries_of ha rfl S.fits (zz1 ?_)))
 refine zz0 (rW ha S.fits ?_)
 cases hd:(!(w.params.followText "set-order")&&(!t.plain&&decide (es.size > 1)))with
 |true=>
  simp only[↓reduceIte]
  refine zz0 (iO es.size (List.range es.size) s (by simp) fun π d hp=>?_)
  have hl:π.length=es.size:=by rw[hp.length_eq,List.length_range]
  have hm:∀j∈π,j < es.size:=fun j hj=>List.mem_range.mp (hp.mem_iff.mp hj)
  refine zz0 (wpAny_newTuple (s:={s with drawn:=d}) ?_ (by rw[fw,hl];exact fits_of_scanBound S.bound))
  have ha2:(s.heap.push {cls:=.type "tuple",data:=.seq (π.map fun(i:Nat)=>rawInt i).toArray}).get? a=some (cJ es ep t):=eT _ ha
  refine zz0 (wpAny_setEpoch_of (s:={s with drawn:=d,heap:=s.heap.push {cls:=.type "tuple",data:=.seq (π.map fun(i:Nat)=>rawInt i).toArray}}) ha2 rfl S.fits ?_)
  refine zz0 (wpAny_newObj_type ?_)
  have hs1:(s.heap.push {cls:=.type "tuple",data:=.seq (π.map fun(i:Nat)=>rawInt i).toArray}).objs.size=s.heap.objs.size+1:=by rw[rk]
  refine zz1 ⟨_,rfl,"set_iterator",_,⟨_,kh _ rfl,rfl⟩,F.slot_next.lookup,?_⟩
  refine hQ _ _ _ _ (π.map (D2 es)) (fun b o e=>eT _ (eT _ e)) (by rw[rk,rk];omega) rfl rfl rfl ?_ (by dsimp only;rw[hs1];omega)
   (fun A' hA=>uC hA (T:=s.heap.objs.size) (a:=a) (ep:=ep) (t:=t) π hm hl S.fits (by dsimp only;rw[hs1];exact eU (zzC _)) (by dsimp only;rw[hs1];exact eU (Zb hlt)))
   ⟨kh _ rfl,eT _ (kh _ rfl),eT _ ha2⟩ ?_
  ·intro b hb
   rcases Zai.mp hb with rfl |hb
   ·right;dsimp only;rw[hs1];omega
   rcases Zai.mp hb with rfl |hb
   ·right;exact eD _
   ·left;exact Zac.mp hb
  ·refine(hp.map (D2 es)).trans ?_
   rw[show(List.range es.size).map (D2 es)=es.toList.map (·.2)from ?_]
   refine List.ext_getElem (by simp) fun i h1 h2=>?_
   have hi:i < es.size:=by simpa using h1
   simp[D2,hi]
 |false=>
  simp only[Bool.false_eq_true,↓reduceIte]
  refine zz0 (zz1 ?_)
  refine zz0 (wpAny_setEpoch_of ha rfl S.fits ?_)
  refine zz0 (wpAny_newObj_type ?_)
  refine zz1 ⟨_,rfl,"set_iterator",_,⟨_,kh _ rfl,rfl⟩,F.slot_next.lookup,?_⟩
  have hfp:∀b∈[s.heap.objs.size,a],b=a∨s.heap.objs.size≤b:=fun b hb=>by
   rcases Zai.mp hb with rfl |hb
   ·right;exact eD _
   ·left;exact Zac.mp hb
  cases hb:w.params.followText "set-order" with
  |true=>
   exact hQ _ _ _ _ ((pickOrder (w.params.setOrder a ep) es).toList.map (·.2)) (fun b o e=>eT _ e) (by rw[rk];omega) rfl rfl rfl hfp (eD _)
    (fun A' hA=>xV hA (t:=t) hb S.fits (eU hlt)) ⟨kh _ rfl,eT _ ha⟩ ((nX _ es).map _)
  |false=>
   have hled:t.led=true:=by rw[S.led,ka,hb];rfl
   have hsz:es.size≤1:=by
    rw[hb]at hd
    by_cases z:es.size=0
    ·omega
    ·rw[S.plain z]at hd
     simp at hd
     omega
   exact hQ _ _ _ _ (es.toList.map (·.2)) (fun b o e=>eT _ e) (by rw[rk];omega) rfl rfl rfl hfp (eD _)
    (fun A' hA=>Ax hA (t:=t) hb hsz hled S.fits (eU hlt)) ⟨kh _ rfl,eT _ ha⟩ (List.Perm.refl _)
end
end NhSet
namespace NhSet
open PySem PyProof.Rows
namespace F
theorem CF:typeLookup (.type "set") "__len__"=pure (some (.builtin "set.__len__")):=by rw[typeLookup_type,builtinLookup_eq_fast];kernel_rfl
end F
section
variable {prog:Program} {w:World} {A:Around} {E:Value→Shared→Prop} {s:Shared}
theorem rX{t:SetTable}{Q:List Value→Shared→Prop}(hh:A.handled=none)(ha:s.heap.get? a=some (cJ es ep t))(S:SS w (ka w) ks es t)
  (hQ:∀(s':Shared) (items:List Value),(∀b o,s.heap.get? b=some o→s'.heap.get? b=some o)→s'.gens=s.gens→s'.os=s.os→s.heap.objs.size≤s'.heap.objs.size→items.Perm (es.toList.map (·.2))→Q items s'):
  wpAny (model prog w) A (collect (.ref a)) Q E s:=by
 have hlt:a < s.heap.objs.size:=eI ha
 unfold collect
 refine zz0 (wpAny_runValue (codeAny_builtin PySem.F.entry_proto_collect ?_))
 rw[Around.under_plainId PySem.F.plain_proto_collect _]
 show wpAny _ A.in1 (newList [] >>= fun l=>again (.builtin "list.__iadd__" ⟨[l,.ref a],[]⟩)) _ _ s
 refine zz0 (wpAny_newObj_type ?_)
 refine zz1 ⟨plainId_quiet PySem.F.plain_list_iadd _,codeAny_builtin PySem.F.entry_list_iadd ?_⟩
 rw[Around.under_plainId PySem.F.plain_list_iadd _]
 show wpAny _ A.in1 (Builtin.List.listExtendWith (.ref s.heap.objs.size) (.ref a) (.ref s.heap.objs.size)) _ _ _
 unfold Builtin.List.listExtendWith
 have ha1:(s.heap.push {cls:=.type "list",data:=.seq ([]:List Value).toArray}).get? a=some (cJ es ep t):=eT _ ha
 have hT1:Shared.TypeIs {s with heap:=s.heap.push {cls:=.type "list",data:=.seq ([]:List Value).toArray}} (.ref a) "set":=⟨_,ha1,rfl⟩
 refine zz0 (wpAny_typeOf hT1 ?_)
 have h1:Builtin.List.listSameRef (.ref s.heap.objs.size) (.ref a)=false:=by simp[Builtin.List.listSameRef];exact Nat.ne_of_gt hlt
 have h2:(Value.type "set" == Value.type "list")=false:=by decide
 have h3:(Value.type "set" == Value.type "tuple")=false:=by decide
 simp only[h1,h2,h3,Bool.or_false,hW]
 refine zz0 (Ay ha1 S fun s2 I fp St items k2 z2 g2 o2 t2 hfp hI W hst hp=>?_)
 have hT2:s2.TypeIs (.ref a) "set":=⟨_,k2 a _ ha1,rfl⟩
 refine zz0 (zz7 ?_)
 unfold Builtin.List.listLengthHint
 refine zz0 (wpAny_specialOf hT2 F.CF ?_)
 wp_delta
 refine zz0 (wpAny_isInstance (T:="set") (b:=true) hT2 sub_set_self ?_)
 show wpAny _ A.in1 (typeOf (Value.ref a) >>= _) _ _ _
 refine zz0 (wpAny_typeOf hT2 ?_)
 refine zz1 ?_
 rw[if_pos (by decide)]
 refine zz0 (wpAny_rule ?_)
 have hS0:s2.heap.get? s.heap.objs.size=some {cls:=.type "list",data:=.seq ([]:List Value).toArray}:=k2 _ _ (kh _ rfl)
 refine zz0 ?_
 show wpAny _ A.in1 (updateSeq s.heap.objs.size (·.push .none) >>= fun _=>updateSeq s.heap.objs.size (·.pop)) _ _ _
 refine zz0 (wpAny_updateSeq hS0 rfl ?_)
 have hS2:=Heap.get?_update_self (Obj.mapSeq (·.push Value.none)) hS0 rfl
 refine wpAny_updateSeq hS2 rfl ?_
 have hS3:=Heap.get?_update_self (Obj.mapSeq (·.pop)) hS2 rfl
 have oth:∀b o,b≠s.heap.objs.size→s2.heap.get? b=some o→
   ((s2.heap.update s.heap.objs.size (Obj.mapSeq (·.push Value.none))).update s.heap.objs.size (Obj.mapSeq (·.pop))).get? b=some o:=
  fun b o hb e=>(zF _ _ (Ne.symm hb)).trans ((zF _ _ (Ne.symm hb)).trans e)
 have hz1:(s.heap.push {cls:=.type "list",data:=.seq ([]:List Value).toArray}).objs.size=s.heap.objs.size+1:=by rw[rk]
 have hnS:∀b,(s.heap.push {cls:=.type "list",data:=.seq ([]:List Value).toArray}).objs.size≤b→b≠s.heap.objs.size:=fun b hb e=>by
  rw[hz1,e]at hb;exact Nat.not_succ_le_self _ hb
 have hSf:s.heap.objs.size∉fp:=fun hm=>by
  rcases hfp _ hm with e |e
  ·exact absurd e (Nat.ne_of_gt hlt)
  ·exact hnS _ e rfl
 have hlen:items.length≤sizeLine:=by
  rw[hp.length_eq];simpa using fits_of_scanBound S.bound
 refine zz1 ⟨plainId_quiet PySem.F.plain_extend_loop _,codeAny_extend_loopS (W A.in1 (by simp[hh])).toS hlen _ hSf _ items.length 0 _ _ _ rfl (zz9 _)
  ((W A.in1 (by simp[hh])).frame 0 s2.heap _ hst fun b hb o e=>oth b o (fun z=>hSf (z▸hb)) e) hS3 (ItemsOf.nil _) fun s' acc' c' hm hS' hacc=>?_⟩
 show wpAny _ A (load s.heap.objs.size >>= _) _ _ s'
 refine zz0 (wpAny_load hS' ?_)
 have hacc':acc'.toList=items:=by
  refine List.ext_getElem? fun i=>?_
  rw[Array.getElem?_toList]
  by_cases hi:i < acc'.size
  ·rw[Array.getElem?_eq_getElem hi]
   exact(hacc.2 i _ (Array.getElem?_eq_getElem hi)).symm
  ·rw[Array.getElem?_eq_none (by omega),List.getElem?_eq_none (by rw[←hacc.1];omega)]
 refine zz1 ?_
 rw[hacc']
 refine hQ s' items (fun b o e=>?_) (hm.gens.trans g2) (hm.os.trans o2) (Nat.le_of_lt (eI hS')) hp
 have hb:b < s.heap.objs.size:=eI e
 refine hm.heap b o (fun z=>?_) (oth b o (eU hb) (k2 b o (eT _ e)))
 rcases Zai.mp z with z |z
 ·exact absurd z (eU hb)
 ·rw[Zac.mp z]at hb
  have hI':s.heap.objs.size+1≤I:=by rw[←hz1];exact hI
  exact absurd (kT (zzC _) hI') (Nat.lt_asymm hb)
theorem uE(hh:A.handled=none)(hS:StrSet w s.heap a (ka w) ks)(h64:ks.length < 64)
  (h:∀(s':Shared) (l:Addr) (out:Array Value) (e:Nat) (ss':List Str),(∀b o,s.heap.get? b=some o→s'.heap.get? b=some o)→s'.gens=s.gens→s'.os=s.os→s.heap.objs.size≤l→s'.heap.get? l=some (seqObj "list" out e)→StrsAre out.toList ss'→ss'.Perm ks→sortedS ss'=true→Q (.ref l) s'):
  wpAny (model prog w) A (call (.builtin "sorted") [.ref a]) Q E s:=by
 obtain⟨es,ep,t,ha,S⟩:=hS
 refine Calls.call_function_entry kind_sorted plain_sorted entry_sorted (args_sorted1 _) ?_
 unfold Builtin.«sorted»
 refine zz0 (m:=checkCount "sorted" 1 1 _) (zz1 ?_)
 refine zz0 (rX (by simp[hh]) ha S fun s1 items k1 g1 o1 hsz hp=>?_)
 have hpk:(items.map strOf).Perm ks:=(hp.map strOf).trans (by rw[List.map_map];exact S.perm)
 have hst:∀v∈items,∃x tk,v=.str x tk:=fun v hv=>by
  obtain⟨e,he,rfl⟩:=Zaz.mp (hp.mem_iff.mp hv)
  obtain⟨x,tk,rfl⟩:=S.elems e he
  exact⟨x,tk,rfl⟩
 have hSA:=strsAre_map items hst
 have hl64:items.length < 64:=by have:=hpk.length_eq;rw[fw]at this;omega
 refine zz0 (wpAny_newList ?_)
 have hoL:(s1.heap.push (seqObj "list" items.toArray 0)).get? s1.heap.objs.size=some (seqObj "list" items.toArray 0):=kh _ rfl
 refine zz0 (zz7 (wpAny_call_entry slot_list_sort ⟨_,hoL,rfl⟩ entry_list_sort (list_sort_treeK (s:={s1 with heap:=s1.heap.push (seqObj "list" items.toArray 0)}) strKind_oneLt hoL hSA.keysOf (fun v₁ v₂ dO e=>keyKind_strs (by rw[←e];exact hSA)) hl64 fun st' a1 a2=>⟨_,rfl,?_⟩) (args_list_sort _)))
 obtain⟨ss',b1,b2,b3⟩:=sorted_out_str hSA a1 a2
 obtain⟨e,he⟩:=sortedHeap_at (out:=(arrOf st').map (·.2)) hoL
 refine zz1 ⟨_,rfl,h _ s1.heap.objs.size _ e ss' (fun b o hb=>?_) g1 o1 hsz he b1 (b2.trans hpk) b3⟩
 have hb1:=k1 b o hb
 have hlt:=eI hb1
 dsimp only
 rw[sortedHeap_old (eU hlt) (by rw[size_push'];exact Zb hlt),Heap.get?_push_ne _ _ _ (eU hlt)]
 exact hb1
end
end NhSet
namespace PL
open PySem L2 Nh
def xW(w:World)(a:Addr)(ks:List Str):HO:=.ext fun h=>NhSet.StrSet w h a (NhSet.ka w) ks
theorem Az(ns:List Str)(n:Nat)(h:n=ns.length):NhSet.ko (fun i=>ns.getD i ⟨#[]⟩) n=j7 ns:=by
 have e:(List.range n).map (fun i=>ns.getD i ⟨#[]⟩)=ns:=by
  subst h
  refine List.ext_getElem (by simp) fun i h1 h2=>?_
  simp[h2]
 show((List.range n).map (fun i=>ns.getD i ⟨#[]⟩)).foldl NhSet.mS []=ns.foldl BX []
 rw[e]
 rfl
theorem xX(x:Str):NhSet.ko (NhSet.ii x) x.cps.size=j7 (fE x):=by
 have e:(List.range x.cps.size).map (NhSet.ii x)=fE x:=by
  refine List.ext_getElem (by simp[fE]) fun i h1 h2=>?_
  have hi:i < x.cps.size:=by simpa using h1
  simp[fE,NhSet.ii,hi]
 show((List.range x.cps.size).map (NhSet.ii x)).foldl NhSet.mS []=(fE x).foldl BX []
 rw[e]
 rfl
section
variable {X:Cx} {e:Expr} {m1:Bool} {f:bj} {p p2 pos pos2:Pos}
def rY(K:Frag)(w:World):List V→Hp→VK→Prop:=fun xs H Q=>
 (∃(p:Addr) (ss:List Str),xs=[.ref p]∧SqL K H p (ss.map V.str)∧ss.length < 4000∧∀a,H a=none→Q (.ref a) (upd H a (xW w a (j7 ss))))∨
 ∃x:Str,xs=[.str x]∧(fE x).length < 4000∧∀a,H a=none→Q (.ref a) (upd H a (xW w a (j7 (fE x))))
theorem xY(hc:X.calm=true):CallR X (.type "set") (rY X.K X.w):=by
 intro pins s σ H xs us Q I r h
 rcases h with⟨p,ss,rfl,hq,hl,q⟩ |⟨x,rfl,hl,q⟩
 ·cases r with
  |cons r rr=>
   cases rr
   cases r
   obtain⟨its,rv,pl,hz⟩:=I.list hq
   have hS:=nS rv
   have hlen:its.length=ss.length:=by have:=rv.length;simpa using this.symm
   refine NhSet.xS (I.ok.hd hc) pl.isList (by simpa using hS) (by simp only[mz,scanBound];omega) fun h' tk S k=>?_
   rw[Az ss its.toArray.size (by simpa using hlen)]at S
   exact⟨.ref s.heap.objs.size,_,I.laid (fun b o e=>k b o (eI e) e) (eD _) (show ObjOk X.prog X.w _ _ _ (xW X.w s.heap.objs.size (j7 ss))from⟨S,S.obj,fun h1 h2 T kk=>T.at' kk⟩),rfl,q _ (I.hok.fresh (eD _))⟩
 ·cases r with
  |cons r rr=>
   cases rr
   obtain⟨t,rfl⟩:=r
   have hl2:x.cps.size < 4000:=by simpa[fE]using hl
   refine NhSet.Aw (I.ok.hd hc) (by simp only[scanBound];omega) fun h' tk S k=>?_
   rw[xX]at S
   exact⟨.ref s.heap.objs.size,_,I.laid (fun b o e=>k b o (eI e) e) (eD _) (show ObjOk X.prog X.w _ _ _ (xW X.w s.heap.objs.size (j7 (fE x)))from⟨S,S.obj,fun h1 h2 T kk=>T.at' kk⟩),rfl,q _ (I.hok.fresh (eD _))⟩
def AC(w:World):List V→Hp→VK→Prop:=fun xs H Q=>∃(a:Addr) (ks:List Str),xs=[.ref a]∧H a=some (xW w a ks)∧ks.length < 64∧∀l,H l=none→Q (.ref l) (upd H l (.lst ((fD ks).map V.str)))
theorem qA(hc:X.calm=true):CallR X (.builtin "sorted") (AC X.w):=by
 intro pins s σ H xs us Q I r h
 obtain⟨a,ks,rfl,ha,h64,q⟩:=h
 cases r with
 |cons r rr=>
  cases rr
  cases r
  obtain⟨S,_,_⟩:ObjOk X.prog X.w H s.heap a (xW X.w a ks):=I.hok a _ ha
  refine NhSet.uE (I.ok.hd hc) S h64 fun s' l out e ss' k g o hl he b1 b2 b3=>?_
  have:=kn b2 b3
  subst this
  have new:ObjOk X.prog X.w (upd H l (.lst ((fD ks).map V.str))) s'.heap l (.lst ((fD ks).map V.str)):=⟨by rw[fw,jU];exact eL (by omega),out.toList,e,k9 b1,he⟩
  exact⟨.ref l,_,I.call' (ch:=[]) o (Un.laid k hl (I.hok.fresh hl)) (I.hok.laid k hl new) (by rw[g];exact I.bare) (fun _ z=>nomatch z),rfl,q _ (I.hok.fresh hl)⟩
theorem uF(hc:X.calm=true) (hg:Gl X "sorted") (hm:X.mg "sorted"=none) (hg2:Gl X "set") (hm2:X.mg "set"=none) (ha:EX X e m1 f) (he:starEach [e] X.env=[(false,eval e X.env)]:=by rfl)
  (he2:starEach [.Call (.Name "set" p2) [e] [] pos2] X.env=[(false,eval (.Call (.Name "set" p2) [e] [] pos2) X.env)]:=by rfl):EX X (.Call (.Name "sorted" p) [.Call (.Name "set" p2) [e] [] pos2] [] pos) m1 (nT f):=by
 refine bv (gX (qA hc) hg hm PyProof.Rows.boot_sorted (cP (xB (xY hc) hg2 hm2 PyProof.Rows.boot_set (cP ha eJ he) (by decide) (by decide) he rfl) eJ he2) (by decide) (by decide) he2 rfl) fun σ H Q z=>?_
 obtain⟨B,E,xs,Xs,res,E',fr,cl,e,q⟩:=z
 obtain⟨⟨s,E1⟩,e1,e⟩:=Za.mp e
 refine⟨B,E,xs,Xs,s,E1,fr,cl,e1,fun v1 H1 ⟨F,A,fr1⟩=>?_⟩
 obtain⟨A',fr2⟩:=fr1.pop
 simp only at e
 split at e
 ·rename_i ds ld
  obtain⟨ss,es,e⟩:=Za.mp e
  split at e
  ·rename_i hc
   cases e
   have r:=(fr1.look0 ld).1
   cases r with
   |lst h1 h2=>
    have:=m6 h2 es
    subst this
    exact .inl ⟨_,ss,rfl,h1,hc.1,fun a ha=>⟨a,_,rfl,upd_same,hc.2,fun l hl=>q _ _ ⟨_,_,(fr2.grow (fz ha _)).newl (gl _) hl⟩⟩⟩
  ·cases e
 ·rename_i x ld
  split at e
  ·rename_i hc
   cases e
   have r:=(fr1.look0 ld).1
   cases r
   exact .inr ⟨x,rfl,hc.1,fun a ha=>⟨a,_,rfl,upd_same,hc.2,fun l hl=>q _ _ ⟨_,_,(fr2.grow (fz ha _)).newl (gl _) hl⟩⟩⟩
  ·cases e
 ·cases e
end
end PL
namespace PL
open PySem L2 Nh
theorem wj{i:Int} {t:Tok}  (hg:Gl X x) (hm:X.mg x=some (.int i t)) (hd:(x == ("__debug__":Str))=false:=by decide):EX X (.Name x pos) false (pC (.int i)):=by
 refine bv (qa (v:=.int i) hg hm ⟨t,rfl⟩ hd) fun σ H Q z=>?_
 obtain⟨B,E,xs,Xs,res,E',⟨F,A,fr⟩,cl,e,q⟩:=z
 cases e
 exact q _ _ ⟨F,A,fr.push ⟨rfl,_,rfl,.int _⟩⟩
theorem CG{y:Str} {t:Tok}  (hg:Gl X x) (hm:X.mg x=some (.str y t)) (hd:(x == ("__debug__":Str))=false:=by decide):EX X (.Name x pos) false (pC (.str y)):=by
 refine bv (qa (v:=.str y) hg hm ⟨t,rfl⟩ hd) fun σ H Q z=>?_
 obtain⟨B,E,xs,Xs,res,E',⟨F,A,fr⟩,cl,e,q⟩:=z
 cases e
 exact q _ _ ⟨F,A,fr.push ⟨rfl,_,rfl,.str _⟩⟩
end PL
namespace Nh
open PySem L2 PL
def l4(i:Int):Nat:=[97,98,99,122].getD i.toNat 97
theorem Hd:∀j,j < 26→(Str.ofString "abcdefghijklmnopqrstuvwxyz").cps.toList[j]? =some (97+j):=by decide+kernel
theorem IN(v:Int):atI (Str.ofString "abcdefghijklmnopqrstuvwxyz").cps.toList (v % 26)=some (97+(v % 26).toNat):=by
 have h0:=tJ v (show(26:Int)≠0 by decide)
 have h1:=wS v (show(0:Int) < 26 by decide)
 rw[Fw h0]
 exact Hd _ (by omega)
theorem FC:(Str.ofString "abcdefghijklmnopqrstuvwxyz").length≤1000000:=by decide+kernel
theorem wk{i j:Int}(h1: -(2 ^ 64) < j)(h2:j < 2 ^ 64):kX i j=true:=by
 simp only[kX,Bool.or_eq_true,decide_eq_true_eq]
 exact .inl (.inr ⟨h1,h2⟩)
theorem jV(i j:Int):D0 (.int i) (.int j)=some (decide (i=j)):=rfl
end Nh
namespace L2
open PySem PySem.Spec PyProof.Rows
def wl(K:Frag)(h:Heap):Prop:=∀b q,hZ K b=some q→h.get? b=some (tabObj #[])∧(∃c,PySem.W.CodeHd h c b)∧K.lookup b=none
def dz(K:Frag)(a:Addr)(so:Option HO):Hp:=fun b=>match hZ K b with
 |some q=>some (.tbl q)
 |none=>if b=a then so else none
theorem uG{K:Frag}{b:Addr}(e:hZ K b=some q):dz K a so b=some (.tbl q):=by unfold dz;rw[e]
theorem xZ{K:Frag}(e:hZ K a=none):dz K a so a=so:=by unfold dz;rw[e];exact if_pos rfl
theorem fF{K:Frag}{b:Addr}{u:HO}(e:dz K a so b=some u):(∃q,hZ K b=some q∧u=.tbl q)∨(b=a∧so=some u):=by
 unfold dz at e
 split at e
 ·rename_i q h;cases e;exact .inl ⟨q,h,rfl⟩
 ·by_cases hb:b=a
  ·rw[if_pos hb]at e;exact .inr ⟨hb,e⟩
  ·rw[if_neg hb]at e;cases e
section
variable {P:Program} {w:World} {K:Frag} {mg mb:Str→Option Value} {CX:zR} {k:Nat} {fa a:Addr} {fd:FuncData} {x:Str} {sp:Sp} {s₁:Shared} {vs:List Value} {ns:List Int}
theorem CI(KX:K.In s₁.heap) (hns:s₁.heap.Ns mainGlobals mg) (hb:s₁.heap.Ns builtinsNs mb) (hbb:∀x:Str,x≠"__name__"→mb x=bootBuiltins x) (hlim:s₁.heap.NoLimit) (hg:s₁.gens=#[]) (hbm:∃bm ob,mg "__builtins__"=some (.ref bm)∧bm≠builtinsNs∧s₁.heap.get? bm=some ob∧ob.cls=.type "module"∧ob.dict=some builtinsNs∧ob.data=.plain) (hT:wl K s₁.heap)
  (ha:s₁.heap.get? a=some {cls:=.type "list",data:=.seq vs.toArray}) (hi:IntsAre vs ns) (hl:ns.length≤sizeLine) (hr:Room k callerA)
  (F:∀base:Heap,K.In base→base.Ns mainGlobals mg→FnOk P w K mg base CX k fa fd [x] sp) (hbind:∀(s:Shared) (u:Value),BindsTo s fd ⟨[u],[]⟩ [(x,u)])
  (hsp:∀H:Hp,SqL K H a (ns.map V.int)→sp [.ref a] H (fun v _=>v=.bl true) fun _ _ _=>False)
  (hCX:∀H e s',CX [] H s₁ (fun _ _ _=>False) e s'→False):
  codeAny (model P w) callerA (.call (.ref fa) ⟨[.ref a],[]⟩) (fun r s'=>r=.ok (.ret (.bool true))∧OldK s₁.heap s'.heap∧s'.os=s₁.os∧AllBare s'.gens) s₁:=by
 have rv:=jM hi
 have lenV:=hi.length
 have tabA:hZ K a=none:=by
  cases q:hZ K a with
  |none=>rfl
  |some z=>
   have e:=(hT a z q).1
   rw[ha]at e
   cases e
 have main:∀so:Option HO,(so=none∨(so=some (.frz {cls:=.type "list",data:=.seq vs.toArray} (.lst (ns.map V.int)))∧K.lookup a=none))→SqL K (dz K a so) a (ns.map V.int)→
   codeAny (model P w) callerA (.call (.ref fa) ⟨[.ref a],[]⟩) (fun r s'=>r=.ok (.ret (.bool true))∧OldK s₁.heap s'.heap∧s'.os=s₁.os∧AllBare s'.gens) s₁:=by
  intro so hso hS
  have hok:HOk P w (dz K a so) s₁.heap:=fun b u e=>by
   rcases fF e with⟨q,e1,rfl⟩ |⟨rfl,e1⟩
   ·exact ObjOk.tbl0 (hT b q e1).1
   ·rcases hso with z |⟨z,_⟩
    ·rw[z]at e1;cases e1
    ·rw[z]at e1;cases e1
     exact⟨ha,by rw[fw];exact hl,vs,_,rv,ha⟩
  have free:∀{b:Addr} {o:Obj} {es:Array DictEntry} {ep:Nat},s₁.heap.get? b=some o→o.data=.dict es ep→dz K a so b=none:=fun {b o es ep} e d=>by
   cases q:dz K a so b with
   |none=>rfl
   |some u=>
    rcases fF q with⟨z,e1,_⟩ |⟨rfl,_⟩
    ·rw[(hT b z e1).1]at e;cases e;cases d
    ·rw[ha]at e;cases e;cases d
  have nsK:∀{b:Addr} {m:Str→Option Value},s₁.heap.Ns b m→(rl s₁.heap (dz K a so)).Ns b m:=fun {b m} ⟨o,es,ep,e,d,r⟩=>⟨o,es,ep,nq e (free e d),d,r⟩
  have kin:K.In (rl s₁.heap (dz K a so)):=fun b o e=>nq (KX b o e) (by
   cases q:dz K a so b with
   |none=>rfl
   |some u=>
    rcases fF q with⟨z,e1,_⟩ |⟨rfl,e1⟩
    ·rw[(hT b z e1).2.2]at e;cases e
    ·rcases hso with z |⟨_,z⟩
     ·rw[z]at e1;cases e1
     ·rw[z]at e;cases e)
  have bmK:∃bm ob,mg "__builtins__"=some (.ref bm)∧bm≠builtinsNs∧(rl s₁.heap (dz K a so)).get? bm=some ob∧ob.cls=.type "module"∧ob.dict=some builtinsNs∧ob.data=.plain:=by
   obtain⟨bm,ob,c1,c2,c3,c4,c5⟩:=hbm
   refine⟨bm,ob,c1,c2,nq c3 ?_,c4,c5⟩
   cases q:dz K a so bm with
   |none=>rfl
   |some u=>
    rcases fF q with⟨z,e1,_⟩ |⟨rfl,_⟩
    ·rw[(hT bm z e1).1]at c3;cases c3;cases c4
    ·rw[ha]at c3
     cases c3
     injection c4 with c6
     exact absurd c6 (by decide)
  have e0:Env0 P w K mg (rl s₁.heap (dz K a so)) callerA [] s₁ (dz K a so):=
   ⟨rfl,⟨kin,nsK hns,⟨mb,nsK hb,hbb⟩,let ⟨mc,h1,h2⟩:=hlim;⟨mc,nsK h1,h2⟩,bmK⟩,fun b o e=>BZ e,Nat.le_of_eq (wU _ _),trivial,fun b hb=>absurd (show b∈([]:List Addr)from hb) (by simp),hok,.of_eq hg,fun b q e=>uG e⟩
  refine codeAny_mono ((F _ kin (nsK hns)).run callerA [] s₁ _ ⟨[.ref a],[]⟩ [.ref a] [.ref a] _ _ hr e0 (hbind s₁ (.ref a)) (.cons rfl .nil) (hsp _ hS)) fun r s' h=>?_
  cases r with
  |error e=>exact(hCX _ e s' h).elim
  |ok fl=>
   cases fl with
   |next=>exact False.elim h
   |brk=>exact False.elim h
   |cont=>exact False.elim h
   |ret u=>
    obtain⟨v,H',os,bare,un,hok',r',q⟩:=h
    have q':v=.bl true:=q
    subst q'
    obtain rfl:u=Value.bool true:=r'
    have nofs:∀b,b∉gb ([]:List Env):=fun b z=>absurd (show b∈([]:List Addr)from z) (by simp)
    have step:∀b o,s₁.heap.get? b=some o→asItWas s₁.heap s'.heap b o∧∃o',s'.heap.get? b=some o':=fun b o e=>by
     cases q:dz K a so b with
     |none=>exact⟨.inl (un.keep b o e q (nofs b) (by simp)),_,un.keep b o e q (nofs b) (by simp)⟩
     |some u=>
      rcases fF q with⟨z,e1,rfl⟩ |⟨rfl,e1⟩
      ·obtain⟨t1,⟨c,t2⟩,_⟩:=hT b z e1
       obtain⟨ps,p1,_⟩:=hok' b _ (un.tbls b z q)
       rw[t1]at e
       cases e
       exact⟨.inr (.inl ⟨(t2.tab t1).isCodeTable,rfl,#[],ps,rfl,by simpa using p1⟩),_,p1⟩
      ·rcases hso with z |⟨z,_⟩
       ·rw[z]at e1;cases e1
       ·rw[z]at e1;cases e1
        have z2:=un.frzs b _ _ q
        obtain⟨e2,_⟩:=hok' b _ z2
        rw[ha]at e;cases e
        exact⟨.inl e2,_,e2⟩
    exact⟨rfl,⟨fun b o e=>(step b o e).1,fun b o e=>(step b o e).2⟩,os,bare⟩
 cases hk:K.lookup a with
 |some o=>
  have e:=KX a o hk
  rw[ha]at e
  cases e
  exact main none (.inl rfl) (.inr ⟨_,vs.toArray,_,hk,rfl,rfl,rfl,by rw[mz,lenV];exact hl,by simpa using rv⟩)
 |none=>exact main _ (.inr ⟨rfl,hk⟩) (.inl (.inr ⟨_,xZ tabA⟩))
end
theorem AD{l:OpenLaw}{q:Program}{d:DefRec}{K:Params→Frag}{CX:World→zR}{sp:World→Sp}
  (hn:l.most=some n) (hn2:n≤sizeLine) (hdf:d.params.defaults=[]) (hr:Room k callerA)
  (hY:∀(w:World) (h:Heap),YP w h→(K w.params).In h∧wl (K w.params) h)
  (F:∀(w:World) (mg:Str→Option Value) (fa:Addr) (h:Heap),(K w.params).In h→h.Ns mainGlobals mg→mg d.name=some (.ref fa)→
   ∃fd:FuncData,(∀(s:Shared) (u:Value),BindsTo s fd ⟨[u],[]⟩ [(x,u)])∧
    ∀base:Heap,(K w.params).In base→base.Ns mainGlobals mg→FnOk l.prog w (K w.params) mg base (CX w) k fa fd [x] (sp w))
  (hsp:∀(w:World) (H:Hp) (a:Addr) (ns:List Int),ns.length≤n→SqL (K w.params) H a (ns.map V.int)→sp w [.ref a] H (fun v _=>v=.bl true) fun _ _ _=>False)
  (hCX:∀(w:World) (H:Hp) (s:Shared) (e:Value) (s':Shared),CX w [] H s (fun _ _ _=>False) e s'→False):
  PySem.W.WalkO q loose XP YP l.row.toRowW d [] (fun f vs=>PySem.call f vs):=by
 refine Att.rA hn hdf fun w s₀ s₁ mg mb fa o pm cd doc a vs ns G Y ho hd hcd hmg hobj hints hlen hg=>?_
 obtain⟨KX,KT⟩:=hY w _ Y
 obtain⟨fd,hb,hF⟩:=F w mg fa _ KX G.T.g hmg
 exact CI KX G.T.g G.T.b G.T.builtins G.T.nolimit hg G.T.bmain KT hobj hints (lL hlen hn2) hr hF hb (fun H hS=>hsp w H a ns hlen hS) fun H e s'=>hCX w H s₁ e s'
end L2
namespace NhSet
open PySem PyProof.Rows
section
variable {prog:Program} {w:World} {A:Around} {E:Value→Shared→Prop} {s:Shared}
theorem uH{t:Tok}(hh:A.handled=none)(h64:x.cps.size < 64)
  (h:∀(s1:Shared) (h':Heap) (out:Array Value) (e:Nat) (ss':List Str),(∀b o,s.heap.get? b=some o→s1.heap.get? b=some o)→s1.gens=s.gens→s1.os=s.os→(∀b o,s1.heap.get? b=some o→h'.get? b=some o)→h'.get? s1.heap.objs.size=some (seqObj "list" out e)→StrsAre out.toList ss'→ss'.Perm (PL.fE x)→sortedS ss'=true→Q (.ref s1.heap.objs.size) {s1 with heap:=h'}):
  wpAny (model prog w) A (call (.builtin "sorted") [.str x t]) Q E s:=by
 refine Calls.call_function_entry kind_sorted plain_sorted entry_sorted (args_sorted1 _) ?_
 unfold Builtin.«sorted»
 refine zz0 (m:=checkCount "sorted" 1 1 _) (zz1 ?_)
 refine zz0 (wpAny_collect_str (by simp[hh]) x t (fun s1 acc k1 g1 _ o1 hi=>?_) (by rw[sizeLine_eq];omega))
 have at_:∀(i:Nat) (v:Value),acc.toList[i]? =some v→∃c u,x.cps.toList[i]? =some c∧v=.str ⟨#[c]⟩ u:=fun i v e=>by
  obtain⟨c,u,e1,e2⟩:=hi.2 i v (by rw[←Array.getElem?_toList];exact e)
  exact⟨c,u,by rw[Array.getElem?_toList];exact e1,e2⟩
 have hst:∀v∈acc.toList,∃x tk,v=Value.str x tk:=fun v hv=>by
  obtain⟨i,hi',rfl⟩:=List.mem_iff_getElem.mp hv
  obtain⟨c,u,_,e⟩:=at_ i _ (oU hi')
  exact⟨_,_,e⟩
 have hsg:acc.toList.map strOf=PL.fE x:=by
  refine List.ext_getElem? fun i=>?_
  unfold PL.fE
  rw[wT,wT]
  by_cases hi':i < acc.toList.length
  ·obtain⟨c,u,e1,e2⟩:=at_ i _ (oU hi')
   rw[oU hi',e1,e2]
   rfl
  ·rw[List.getElem?_eq_none (by omega),List.getElem?_eq_none (by have:=hi.1;simp at hi' ⊢;omega)]
   rfl
 have hl64:acc.toList.length < 64:=by have:=hi.1;simp;omega
 clear at_ hi
 generalize acc.toList=items at hst hsg hl64
 have hSA:=strsAre_map items hst
 have hlz:items.length≤sizeLine:=by rw[sizeLine_eq];omega
 refine zz0 (wpAny_newList ?_ hlz)
 have hoL:(s1.heap.push (seqObj "list" items.toArray 0)).get? s1.heap.objs.size=some (seqObj "list" items.toArray 0):=kh _ rfl
 refine zz0 (zz7 (wpAny_call_entry slot_list_sort ⟨_,hoL,rfl⟩ entry_list_sort (list_sort_treeK (s:={s1 with heap:=s1.heap.push (seqObj "list" items.toArray 0)}) strKind_oneLt hoL hSA.keysOf (fun v₁ v₂ dO e=>keyKind_strs (by rw[←e];exact hSA)) hl64 fun st' a1 a2=>⟨_,rfl,?_⟩) (args_list_sort _)))
 obtain⟨ss',b1,b2,b3⟩:=sorted_out_str hSA a1 a2
 obtain⟨e,he⟩:=sortedHeap_at (out:=(arrOf st').map (·.2)) hoL
 refine zz1 ⟨_,rfl,h s1 _ _ e ss' k1 g1 o1 (fun b o hb=>?_) he b1 (hsg▸b2) b3⟩
 have hlt:=eI hb
 rw[sortedHeap_old (eU hlt) (by rw[size_push'];exact Zb hlt),Heap.get?_push_ne _ _ _ (eU hlt)]
 exact hb
end
end NhSet
namespace PL
open PySem L2 Nh
def kr(g:bj):bj:=fun E=>(g E).bind fun a=>match look a.2 a.1 with
 |some (.str x)=>if (fE x).length < 64 then some (.ow ((fD (fE x)).map .str),a.2)else none
 |_=>none
section
variable {X:Cx} {e:Expr} {m1:Bool} {f:bj} {p pos:Pos}
theorem Un.kept'{fs ex:List Addr}(k:∀b u,h.get? b=some u→h'.get? b=some u):Un fs ex H H h h' where
 keep:=fun b u q _ _ _=>k b u q
 slot:=fun b u q _ _ _=>⟨u.slots,k b u q⟩
 free:=fun b u q n _=>n
 there:=fun b u q _=>⟨u,k b u q⟩
 tups:=fun _ _ q=>q
 frzs:=fun _ _ _ q=>q
 tbls:=fun _ _ q=>q
theorem uI(hc:X.calm=true):CallR X (.builtin "sorted") (fun xs H Q=>∃x:Str,xs=[.str x]∧(fE x).length < 64∧∀l,H l=none→Q (.ref l) (upd H l (.lst ((fD (fE x)).map V.str)))):=by
 intro pins s σ H xs us Q I r h
 obtain⟨x,rfl,h64,q⟩:=h
 obtain⟨u,rfl,t,rfl⟩:=zQ r
 refine NhSet.uH (I.ok.hd hc) (by simpa[fE]using h64) fun s1 h' out e ss' k1 g1 o1 k2 he b1 b2 b3=>?_
 have:=kn b2 b3
 subst this
 have I1:Inv X pins σ H s1:=I.call' (ch:=[]) o1 (Un.kept' k1) (I.hok.kept k1) (by rw[g1];exact I.bare) fun _ z=>nomatch z
 have I2:=I1.laid (t':=s1.toks) k2 (eD _) (show ObjOk X.prog X.w (upd H s1.heap.objs.size (.lst ((fD (fE x)).map V.str))) h' s1.heap.objs.size (.lst ((fD (fE x)).map V.str))from⟨by rw[fw,jU];exact eL (by omega),out.toList,e,k9 b1,he⟩)
 exact⟨.ref s1.heap.objs.size,_,I2,rfl,q _ (I1.hok.fresh (eD _))⟩
theorem n6(hc:X.calm=true) (hg:Gl X "sorted") (hm:X.mg "sorted"=none) (ha:EX X e m1 f) (he:starEach [e] X.env=[(false,eval e X.env)]:=by rfl):EX X (.Call (.Name "sorted" p) [e] [] pos) m1 (kr f):=by
 refine bv (gX (uI hc) hg hm PyProof.Rows.boot_sorted (cP ha eJ he) (by decide) (by decide) he rfl) fun σ H Q z=>?_
 obtain⟨B,E,xs,Xs,res,E',fr,cl,e,q⟩:=z
 obtain⟨⟨s,E1⟩,e1,e⟩:=Za.mp e
 refine⟨B,E,xs,Xs,s,E1,fr,cl,e1,fun v1 H1 ⟨F,A,fr1⟩=>?_⟩
 obtain⟨A',fr2⟩:=fr1.pop
 simp only at e
 split at e
 ·rename_i x ld
  split at e
  ·rename_i hc
   cases e
   have r:=(fr1.look0 ld).1
   cases r
   exact⟨x,rfl,hc,fun l hl=>q _ _ ⟨_,_,fr2.newl (gl _) hl⟩⟩
  ·cases e
 ·cases e
end
end PL
namespace L2
open PySem PySem.Spec PyProof.Rows
section
variable {X:Cx} {n:Nat} {e a b:Expr} {es:List Expr} {te ta tb:TE} {t:TA} {pos:Pos}
def D3(X:Cx)(n:Nat)(e:Expr)(t:TE):Prop:=∀(pins:List (Addr×Obj)) (s:Shared) (σ:St) (H:Hp) (Q:VK),n≤s.toks→Inv X pins σ H s→t σ H Q→wpAny (model X.prog X.w) X.A (eval e X.env) (EP X pins σ Q) X.xe s
def He(X:Cx)(n:Nat)(es:List Expr)(t:TA):Prop:=∀(pos:Pos) (pins:List (Addr×Obj)) (s:Shared) (σ:St) (H:Hp) (Q:List V→Hp→Prop),n≤s.toks→Inv X pins σ H s→t σ H Q→wpAny (model X.prog X.w) X.A (spliced (backTo pos (starEach es X.env))) (AP X pins σ Q) X.xe s
theorem CJ{t:Sem α}{Q Q':α→Shared→Prop}{M:Model}{A:Around}{E:Value→Shared→Prop}{s:Shared}(hn:n≤s.toks)(h:wpAny M A t Q E s)(hQ:∀a s,n≤s.toks→Q a s→Q' a s):wpAny M A t Q' E s:=zz2 (wpAny_toks_of hn h) (fun a s z=>hQ a s z.1 z.2) fun _ _ z=>z.2
theorem AE(ha:D3 X n e te)(hr:PA X es t)(hs:starEach (e::es) X.env=(false,eval e X.env)::starEach es X.env):He X n (e::es) (rn te t):=fun pos pins s σ H Q hn I h=>by
 rw[hs]
 exact Calls.spliced_cons (ce (ha pins s σ H _ hn I h) fun u s1 ⟨x,H1,I1,r1,q1⟩=>ce (hr pos pins s1 σ H1 _ I1 q1) fun us s2 ⟨xs,H2,I2,r2,q2⟩=>⟨x::xs,H2,I2,.cons r1 r2,q2⟩)
theorem AF(ha:PE X e te)(hr:He X n es t)(hs:starEach (e::es) X.env=(false,eval e X.env)::starEach es X.env):He X n (e::es) (rn te t):=fun pos pins s σ H Q hn I h=>by
 rw[hs]
 exact Calls.spliced_cons (CJ hn (ha pins s σ H _ I h) fun u s1 n1 ⟨x,H1,I1,r1,q1⟩=>ce (hr pos pins s1 σ H1 _ n1 I1 q1) fun us s2 ⟨xs,H2,I2,r2,q2⟩=>⟨x::xs,H2,I2,.cons r1 r2,q2⟩)
theorem AG{op:Operator}{c:Str}(ho:OpR X (binaryOp op) r)(hb:PE X b tb)(hr:He X 1 es t)(hs:starEach (.BinOp (.Constant (.str c) k p) op b pos::es) X.env=(false,eval (.BinOp (.Constant (.str c) k p) op b pos) X.env)::starEach es X.env):PA X (.BinOp (.Constant (.str c) k p) op b pos::es) (rn (EC r (tC (.str c)) tb) t):=fun pos' pins s σ H Q I h=>by
 rw[hs]
 refine Calls.spliced_cons (wpAny_BinOp (Calls.Constant_str ?_))
 refine CJ (n:=1) (s:={s with toks:=s.toks+1}) (Nat.succ_pos _) (hb pins _ σ H _ (I.tok _) h) fun u s1 n1 ⟨y,H1,I1,r1,q1⟩=>?_
 refine CJ n1 (ho pins s1 σ H1 (.str c) y _ u _ I1 ⟨_,rfl⟩ r1 q1) fun w s2 n2 ⟨z,H2,I2,r2,q2⟩=>?_
 exact ce (hr pos' pins s2 σ H2 _ n2 I2 q2) fun us s3 ⟨xs,H3,I3,r3,q3⟩=>⟨z::xs,H3,I3,.cons r2 r3,q3⟩
theorem FD{op:Operator}(ho:OpR X (binaryOp op) r)(ha:D3 X n a ta)(hb:PE X b tb):D3 X n (.BinOp a op b pos) (EC r ta tb):=fun pins s σ H Q hn I h=>
 wpAny_BinOp (ce (ha pins s σ H _ hn I h) fun v s1 ⟨x,H1,I1,r1,q1⟩=>ce (hb pins s1 σ H1 _ I1 q1) fun u s2 ⟨y,H2,I2,r2,q2⟩=>ho pins s2 σ H2 x y v u Q I2 r1 r2 q2)
def Hg(i:Nat)(c d:Str):TE:=fun σ H Q=>∃x,σ[i]? =some (some (.str x))∧(c == d)=false∧x.length+(x.length+1)*d.length≤100000∧Q (.str (Txt.replace x c d)) H
theorem CK{i:Nat} {c d:Str} {pc pd apos:Pos}  (hN:X.N[i]? =some x) (hv:Eo X.env.scope x) (hd:(x == ("__debug__":Str))=false) (hcd:(x == ("__classdict__":Str))=false)
  (hbase:attributeBase (.Name x p) "replace" X.env (eval (.Name x p) X.env)=eval (.Name x p) X.env)
  (hfew:((backTo cpos (starEach [.Constant (.str c) j pc,.Constant (.str d) k pd] X.env)).all (fun x=> !x.1)&&(backToKw cpos (keywordEach [] X.env)).all (fun x=>x.1.isSome)
   &&decide (([.Constant (.str c) j pc,.Constant (.str d) k pd]:List Expr).length+([]:List Keyword).length+(if ([]:List Keyword).isEmpty then 0 else 1) < 30))=true) (hline:(apos.endLine == cpos.line)=true)
  (hs:starEach [.Constant (.str c) j pc,.Constant (.str d) k pd] X.env=[(false,eval (.Constant (.str c) j pc) X.env),(false,eval (.Constant (.str d) k pd) X.env)]):
  D3 X 1 (.Call (.Attribute (.Name x p) "replace" apos) [.Constant (.str c) j pc,.Constant (.str d) k pd] [] cpos) (Hg i c d):=by
 intro pins s σ H Q hn I z
 obtain⟨y,ey,hy,hl,q⟩:=z
 refine wpAny_Call_method_late hbase hfew hline rfl (CJ hn (p9 hN hv hd hcd pins s σ H (fun v H'=>v=V.str y∧H'=H) I ⟨_,ey,rfl,rfl⟩) fun v s1 n1 w=>?_)
 obtain⟨w,H1,I1,r1,e1,e2⟩:=w
 subst e1 e2
 obtain⟨tb,rfl⟩:=r1
 refine⟨"str","str.replace",PySem.F.plainAttrs_str,PySem.F.slot_str_replace,PySem.F.type_str_replace,typeIs_str _ _ _,fun _ e=>(nomatch e),?_⟩
 rw[hs]
 refine Calls.callWith_builtin rfl (Calls.evalArgs_plain ?_)
 refine Calls.spliced_cons (Calls.Constant_str (k:=j) (pos:=pc) (Calls.spliced_cons (Calls.Constant_str (k:=k) (pos:=pd) (Calls.spliced_nil ?_))))
 refine SC.replace (Nat.ne_of_gt n1) (Nat.succ_ne_zero _) (eU (zzC _)) hy (by omega) fun t' k=>?_
 exact⟨.str (Txt.replace y c d),H1,I1.tok _,⟨_,rfl⟩,q⟩
end
end L2
namespace PL
open PySem L2 Nh
def wm(i:Nat)(c d:Str):bj:=fun E=>match E[i]? with
 |some (.sh (.str x))=>if x.length+(x.length+1)*d.length≤100000 then some (.sh (.str (Txt.replace x c d)),E)else none
 |_=>none
section
variable {X:Cx} {e b:Expr} {es:List Expr} {m m1 m2:Bool} {f g:bj} {d:jP} {pos:Pos} {K:Frag}
theorem n8{σ:L2.St}{Q:List V→Hp→Prop}(z:H_ K (m1||m2) (aw f d) σ H Q):rn (rd K m1 f) (H_ K m2 d) σ H Q:=by
 obtain⟨B,E,xs,Xs,res,E',fr,cl,e,q⟩:=z
 obtain⟨⟨s,E1⟩,e1,e⟩:=Za.mp e
 obtain⟨⟨d1,E2⟩,e2,e⟩:=Za.mp e
 obtain⟨⟨rs,E3⟩,e3,e⟩:=Zab.mp e
 cases e
 refine⟨B,E,xs,Xs,s,E1,fr,fun z=>cl (by simp[z]),e1,fun v1 H1 ⟨F,A,fr1⟩=>?_⟩
 obtain⟨F2,A2,fr2⟩:=fr1.frz0 e2
 exact⟨B,E2,v1::xs,.sh d1::Xs,rs,E3,⟨F2,A2,fr2⟩,fun z=>Calm.cons (cl (by simp[z])) rfl,e3,fun vs H2 hl fr2=>q (v1::vs) H2 (by simp[hl]) (by simpa using fr2)⟩
theorem FE{c:Str}{σ:L2.St}{Q:VK}(z:rd K false (pC (.str c)) σ H Q):tC (.str c) σ H Q:=by
 obtain⟨B,E,xs,Xs,res,E',⟨F,A,fr⟩,cl,e,q⟩:=z
 cases e
 exact q _ _ ⟨F,A,fr.push ⟨rfl,_,rfl,.str c⟩⟩
def Ic(X:Cx)(es:List Expr)(m:Bool)(d:jP):Prop:=He X 1 es (H_ X.K m d)
theorem AH{c:Str}(hb:EX X b m2 g)(hr:Ic X es m d)(hs:starEach (.BinOp (.Constant (.str c) k p) .Add b pos::es) X.env=(false,eval (.BinOp (.Constant (.str c) k p) .Add b pos) X.env)::starEach es X.env:=by rfl):DX X (.BinOp (.Constant (.str c) k p) .Add b pos::es) ((false||m2)||m) (aw (ao bI m2 (pC (.str c)) g) d):=
 nH (AG qo hb hr hs) fun σ H Q z=>FE (lQ qp (n8 z))
theorem AI(ha:EX X e m1 f)(hr:Ic X es m2 d)(hs:starEach (e::es) X.env=(false,eval e X.env)::starEach es X.env:=by rfl):Ic X (e::es) (m1||m2) (aw f d):=
 fun pos pins s σ H Q hn I z=>AF ha hr hs pos pins s σ H Q hn I (n8 z)
theorem AJ(ha:D3 X 1 e (rd X.K m1 f))(hr:DX X es m2 d)(hs:starEach (e::es) X.env=(false,eval e X.env)::starEach es X.env:=by rfl):Ic X (e::es) (m1||m2) (aw f d):=
 fun pos pins s σ H Q hn I z=>AE ha hr hs pos pins s σ H Q hn I (n8 z)
theorem CL{a:Expr}(ha:D3 X 1 a (rd X.K m1 f))(hb:EX X b m2 g):D3 X 1 (.BinOp a .Add b pos) (rd X.K (m1||m2) (ao bI m2 f g)):=
 fun pins s σ H Q hn I z=>FD qo ha hb pins s σ H Q hn I (lQ qp z)
theorem CM(i:Nat) {c d:Str} {pc pd apos:Pos}  (hcd2:(c == d)=false:=by decide) (hN:X.N[i]? =some x:=by rfl) (hv:Eo X.env.scope x:=by first |exact Or.inl rfl |exact Or.inr (Or.inl rfl) |exact Or.inr (Or.inr rfl)) (hd:(x == ("__debug__":Str))=false:=by decide) (hcd:(x == ("__classdict__":Str))=false:=by decide)
  (hbase:attributeBase (.Name x p) "replace" X.env (eval (.Name x p) X.env)=eval (.Name x p) X.env:=by rfl)
  (hfew:((backTo cpos (starEach [.Constant (.str c) j pc,.Constant (.str d) k pd] X.env)).all (fun x=> !x.1)&&(backToKw cpos (keywordEach [] X.env)).all (fun x=>x.1.isSome)
   &&decide (([.Constant (.str c) j pc,.Constant (.str d) k pd]:List Expr).length+([]:List Keyword).length+(if ([]:List Keyword).isEmpty then 0 else 1) < 30))=true:=by rfl) (hline:(apos.endLine == cpos.line)=true:=by rfl)
  (hs:starEach [.Constant (.str c) j pc,.Constant (.str d) k pd] X.env=[(false,eval (.Constant (.str c) j pc) X.env),(false,eval (.Constant (.str d) k pd) X.env)]:=by rfl):
  D3 X 1 (.Call (.Attribute (.Name x p) "replace" apos) [.Constant (.str c) j pc,.Constant (.str d) k pd] [] cpos) (rd X.K false (wm i c d)):=fun pins s σ H Q hn I z=>CK hN hv hd hcd hbase hfew hline hs pins s σ H Q hn I (by
 obtain⟨B,E,xs,Xs,res,E',⟨F,A,fr⟩,cl,e,q⟩:=z
 unfold wm at e
 split at e
 ·rename_i y ey
  split at e
  ·rename_i hl
   cases e
   obtain⟨o,A1,eo,rfl,v0,rfl,rp⟩:=fr.var ey
   cases rp
   exact⟨y,eo,hcd2,hl,q _ _ ⟨F,A,fr.push ⟨rfl,_,rfl,.str _⟩⟩⟩
  ·cases e
 ·cases e)
end
end PL
namespace PL
open PySem L2 Nh
def FG:V→List V→Hp→VK→Prop:=fun x vs H Q=>∃z y,x=.str z∧vs=[.str y]∧(y.length == 0)=false∧z.length≤100000∧∀l,H l=none→Q (.ref l) (upd H l (.lst ((Txt.split z y).map V.str)))
theorem wn:∀l:List (Str×Tok),Vals ((l.map (·.1)).map V.str) (strValues l)
 |[]=>.nil
 |p::l=>.cons ⟨p.2,rfl⟩ (wn l)
theorem x_(z y:Str):(Txt.split z y).length≤z.length+2:=by
 unfold Txt.split
 split
 ·simp
 ·split
  ·simp
  ·have:=StrLaws.occ_length_le_len z y 0 z.length (z.length+1)
   rw[length_partsBetween]
   omega
theorem AK:ID X "str.split" FG:=by
 intro pins s σ H x vs v us Q I rx rv h
 obtain⟨z,y,rfl,rfl,hy,hz,q⟩:=h
 obtain⟨t,rfl⟩:=rx
 obtain⟨u,rfl,ru⟩:=rv.one
 obtain⟨u,rfl⟩:=ru
 have few:=x_ z y
 have new:∀(l:List (Str×Tok)) (k:Nat),l.map (·.1)=Txt.split z y→EP X pins σ Q (.ref s.heap.objs.size) {s with heap:=s.heap.push {cls:=.type "list",data:=.seq (strValues l).toArray},toks:=k}:=fun l k e=>by
  refine⟨.ref s.heap.objs.size,_,I.laid (a:=s.heap.objs.size) (o:=.lst ((Txt.split z y).map V.str)) (t':=k) (fun _ _ w=>eT _ w) (eD _) ?_,rfl,q _ (I.hok.fresh (eD _))⟩
  refine⟨?_,strValues l,0,?_,kh _ rfl⟩
  ·rw[fw]
   exact eL (by omega)
  ·rw[←e]
   exact wn l
 have call:∀{S:Spec},Meets (PySem.Builtin.«str.split» ⟨[.str z t,.str y u],[]⟩) S→S X.A (wants (EP X pins σ Q) X.xe) s→wpAny (model X.prog X.w) X.A (call (.builtin "str.split") [.str z t,.str y u]) (EP X pins σ Q) X.xe s:=
  fun g w=>call_meets F.slot_str_split (typeIs_str _ _ _) F.entry_str_split (F.args_str_split_2 _ _) g w
 by_cases h1:(decide (z.length < y.length)||decide (Builtin.Str.strKind z < Builtin.Str.strKind y))=true
 ·exact call (meets_str_split_cannot_occur z y t u h1) (new [(z,t)] s.toks (by unfold Txt.split;rw[if_pos h1];rfl))
 ·have h1':=Bool.not_eq_true _▸h1
  by_cases h2:(Builtin.Str.occurrences z y 0 z.length (z.length+1)).isEmpty=true
  ·exact call (meets_str_split_not_found z y t u (by simpa using h1) hy h2) (new [(z,t)] s.toks (by unfold Txt.split;rw[if_neg h1,if_pos h2];rfl))
  ·have e:Txt.split z y=Builtin.Str.partsBetween z (Builtin.Str.occurrences z y 0 z.length (z.length+1)) y.length:=by unfold Txt.split;rw[if_neg h1,if_neg h2]
   have sl:z.length+2≤sizeLine:=eL (by omega)
   refine call (meets_str_split_sep z y t u (by simpa using h1) hy (by simpa using h2) (by omega) (by rw[←e];omega)) ?_
   rw[←e]
   have:=new (numbered s.toks (Txt.split z y)) (s.toks+(Txt.split z y).length) (numbered_texts _ _)
   rw[←strsFrom_eq]at this
   exact this
def ij(i:Nat)(f:bj):bj:=fun E=>match E[i]? with
 |some (.sh (.str x))=>(f E).bind fun a=>match look a.2 a.1 with
  |some (.str y)=>if (y.length == 0)=false∧x.length≤100000 then some (.ow ((Txt.split x y).map .str),a.2)else none
  |_=>none
 |_=>none
section
variable {X:Cx} {e:Expr} {m1:Bool} {f:bj} {x:Str} {p apos cpos:Pos}
theorem rZ(i:Nat) (he:EX X e m1 f) (hN:X.N[i]? =some x:=by rfl) (hv:Eo X.env.scope x:=by first |exact Or.inl rfl |exact Or.inr (Or.inl rfl) |exact Or.inr (Or.inr rfl)) (hd:(x == ("__debug__":Str))=false:=by decide) (hcd:(x == ("__classdict__":Str))=false:=by decide)
  (hs:starEach [e] X.env=[(false,eval e X.env)]:=by rfl) (hbase:attributeBase (.Name x p) "split" X.env (eval (.Name x p) X.env)=eval (.Name x p) X.env:=by rfl)
  (hfew:((backTo cpos (starEach [e] X.env)).all (fun x=> !x.1)&&(backToKw cpos (keywordEach [] X.env)).all (fun x=>x.1.isSome)
   &&decide (([e]:List Expr).length+([]:List Keyword).length+(if ([]:List Keyword).isEmpty then 0 else 1) < 30))=true:=by rfl) (hline:(apos.endLine == cpos.line)=true:=by rfl):
  EX X (.Call (.Attribute (.Name x p) "split" apos) [e] [] cpos) m1 (ij i f):=by
 refine bv (zW PySem.F.plainAttrs_str PySem.F.slot_str_split PySem.F.type_str_split AK (p9 hN hv hd hcd) (cP he eJ hs) hbase hfew hline hs rfl) fun σ H Q z=>?_
 obtain⟨B,E,xs,Xs,res,E',⟨F,A,fr⟩,cl,e,q⟩:=z
 unfold ij at e
 split at e
 ·rename_i z ei
  obtain⟨⟨s,E1⟩,e1,e⟩:=Za.mp e
  simp only at e
  split at e
  ·rename_i y ly
   split at e
   ·rename_i hc
    cases e
    obtain⟨o,A1,eo,rfl,v0,rfl,rp⟩:=fr.var ei
    cases rp
    refine⟨_,eo,rfl,B,E,xs,Xs,_,E',⟨F,A,fr⟩,cl,e1,fun v H1 ⟨F1,A1,fr1⟩=>?_⟩
    have r1:=(fr1.look0 ly).1
    obtain⟨A',fr2⟩:=fr1.pop
    cases r1
    exact⟨z,y,rfl,rfl,hc.1,hc.2,fun l hl=>q _ _ ⟨F1,_,fr2.newl (gl _) hl⟩⟩
   ·cases e
  ·cases e
 ·cases e
end
end PL
namespace PL
open PySem PySem.Spec PyProof.Rows L2 Nh PySem.W PySem.Calls Builtin Builtin.ObjectAttr Builtin.Getset_descriptor
structure ExCls (K:Frag) (C:Addr):Prop where
 cls:∃cd,clsIn K C=some cd
 ga:findIn K (.ref C) "__getattribute__"=some (some (.builtin "BaseException.__getattribute__"))
 gt:findIn K (.ref C) "__getattr__"=some none
 ca:findIn K (.ref C) "__class__"=some (some (.builtin "object.__class__"))
 mb:mroIn K C (.type "BaseException")=some true
 mo:mroIn K C (.type "object")=some true
section
variable {K:Frag} {a C:Addr} {M:Model} {h:Heap}
theorem kt(p:eV a C h):Looks M h (typeOf (.ref a)) (.ref C):=by
 obtain⟨o,h1,h2⟩:=p
 exact h2▸(Looks.ld h1).andThen .now
theorem CN{prog:Program}{w:World}{A:Around}{R:Result→Shared→Prop}{s:Shared}{tp:Value}(Z:ExCls K C)(X:K.In s.heap)(I:eV a C s.heap)(h:R (.ok (.ret (.ref C))) s):
  codeAny (model prog w) A (.call (.builtin "getset_descriptor.__get__") ⟨[.builtin "object.__class__",.ref a,tp],[]⟩) R s:=by
 obtain⟨hh,g,dr,t,os⟩:=s
 have L0:=kt (M:=model prog w) I
 have L1:=looks_mroIn (M:=model prog w) X Z.mo
 refine codeAny_call_builtin KF.slot_gs.plain KF.entry_gs (KF.slot_gs.check _ _ _ _ _ _ _ _ KF.type_class (KF.args_gs _ _ _) ?_)
 unfold Builtin.«getset_descriptor.__get__» descrGet
 rw[dga_obj]
 refine zz0 (zz1 ?_)
 unfold descrGetter descrCheckInstance descrNameAndClass isInstance
 simp only[KF.owner_class]
 repeat lk
 refine⟨Code.quiet_builtin _ (by decide+kernel),codeAny_builtin KF.entry_class ?_⟩
 unfold Builtin.«object.__class__» shownTypeOf
 repeat lk
 exact h
theorem yA{prog:Program}{w:World}{A:Around}{E:Value→Shared→Prop}{Q:Fin→Shared→Prop}{s:Shared}{tk:Tok}(Z:ExCls K C)(X:K.In s.heap)(I:eV a C s.heap)(h:Q (.done (.ret (.ref C))) s):
  wpAny (model prog w) A (Builtin.«object.__getattribute__» ⟨[.ref a,.str "__class__" tk],[]⟩) Q E s:=by
 obtain⟨hh,g,dr,t,os⟩:=s
 have L0:=kt (M:=model prog w) I
 have L1:=looks_findIn (M:=model prog w) X Z.ca
 have hT5:(⟨hh,g,dr,t,os⟩:Shared).TypeIs (.builtin "object.__class__") "getset_descriptor":=F.typeOf_object_class
 have f5:=F.typeOf_object_class
 have f6:=F.slot_gs_get.lookup
 have f7:=F.slot_gs_set.lookup
 repeat (any_goals (first |assumption |with_reducible refine L0.at ?_ |with_reducible refine L1.at ?_ |wp_step))
 refine CN Z X I ?_
 repeat (any_goals (first |assumption |wp_step))
theorem yB{A:Around}{E:Value→Shared→Prop}{nameV:Value}{Q:Unit→Shared→Prop}{s:Shared}(Z:ExCls K C)(X:K.In s.heap)(I:eV a C s.heap)(hq:Q () s):wpAny M A (checkBuiltinCall "BaseException.__getattribute__" ⟨[.ref a,nameV],[]⟩) Q E s:=by
 obtain⟨hh,g,dr,t,os⟩:=s
 have L0:=kt (M:=M) I
 have L1:=looks_mroIn (M:=M) X Z.mb
 have hk:builtinKind "BaseException.__getattribute__"=some .slot:=by decide+kernel
 have hsplit:splitId "BaseException.__getattribute__"=some ("BaseException","__getattribute__"):=by decide+kernel
 have ha:=F.args_bexc_ga (.ref a) nameV
 simp only[checkBuiltinCall,hk,hsplit]
 refine zz0 ?_
 unfold isInstance
 repeat (first |with_reducible refine L0.at ?_ |with_reducible refine L1.at ?_ |wp_step)
 exact hq
theorem FH{prog:Program}{w:World}{A:Around}{E:Value→Shared→Prop}{s:Shared}{tk:Tok}{fill expr:Bool}(Z:ExCls K C)(X:K.In s.heap)(I:eV a C s.heap)(hq:Q (.ref C) s):
  wpAny (model prog w) A (getAttrBy (.ref a) (.str "__class__" tk) fill expr) Q E s:=by
 obtain⟨hh,g,dr,t,os⟩:=s
 have L0:=kt (M:=model prog w) I
 have L1:=looks_findIn (M:=model prog w) X Z.ga
 have L2:=looks_findIn (M:=model prog w) X Z.gt
 have f3:=F.attr_ValueError.ga.bind (.ref a)
 have hx0:(expr&&onTheHeap (Value.builtin "BaseException.__getattribute__"))=false:=by cases expr <;> rfl
 have hx2:(Value.builtin "BaseException.__getattribute__" == Value.builtin "object.__getattribute__")=false:=by decide+kernel
 have hx1:(onTheHeap (Value.ref C)&&Value.builtin "BaseException.__getattribute__" == Value.builtin "object.__getattribute__")=false:=by rw[hx2];rfl
 repeat (any_goals (first |assumption |with_reducible refine L0.at ?_ |with_reducible refine L1.at ?_ |with_reducible refine L2.at ?_ |wp_step))
 refine codeAny_call_builtin F.attr_ValueError.ga.plain F.entry_bexc_ga (yB Z X I (yA Z X I ?_))
 repeat (any_goals (first |assumption |wp_step))
theorem AL{prog:Program}{w:World}{A:Around}{E:Value→Shared→Prop}{Q:Option Value→Shared→Prop}{s:Shared}(Z:ExCls K C)(X:K.In s.heap)(I:eV a C s.heap)(hq:Q (some (.ref C)) {s with toks:=s.toks+1}):
  wpAny (model prog w) A (getAttr? (.ref a) "__class__") Q E s:=by
 obtain⟨hh,g,dr,t,os⟩:=s
 unfold getAttr?
 repeat (any_goals (first |assumption |with_reducible apply FH (s:=⟨hh,g,dr,t+1,os⟩) Z X I |wp_step))
theorem AM(Z:ExCls K C):KitX K (.ref a) (.ref C) (eV a C) where
 ty:=fun _ _ _ I=>kt I
 it:=fun _ _ X _=>by
  obtain⟨cdD,hcD⟩:=Z.cls
  unfold clsIn at hcD
  split at hcD
  ·rename_i c' d' cd' sl' ho
   intro A' Q' E' s' k q
   unfold isType loadHead
   exact zz0 (wpAny_loadPart (k _ _ (X _ _ ho)) (zz1 q))
  ·cases hcD
 ne:=fun h tp dd its n sl X htp=>by
  obtain⟨cdD,hcD⟩:=Z.cls
  refine Bool.eq_false_iff.mpr fun q=>?_
  have e:C=tp:=Value.ref.inj (beq_iff_eq.mp q)
  subst e
  unfold clsIn at hcD
  split at hcD
  ·rename_i c' d' cd' sl' ho
   have z:=(X _ _ ho).symm.trans htp
   cases z
  ·cases hcD
 ca:=fun X I k=>AL Z X I k
end
end PL
namespace PL
open PySem PySem.Spec PyProof.Rows L2 Nh
def CtxV(v:Value)(e:Addr)(h:Heap):Prop:=∃o vs,h.get? e=some o∧o.data=.fields vs∧vs[2]? =some v
abbrev IO(e:Addr)(h:Heap):Prop:=CtxV .none e h
def wo:List (Addr×Obj)→Value
 |[]=>.none
 |p::_=>.ref p.1
def ChainP:List (Addr×Obj)→Prop
 |[]=>True
 |p::ps=>(∃ws,p.2.data=.fields ws∧ws[2]? =some (wo ps))∧(∀q∈ps,q.1≠p.1)∧ChainP ps
def CtxN(Hf:Hp)(base:Heap)(e:Addr)(h:Heap):Prop:=∃ps,ChainP ps∧CtxV (wo ps) e h∧(∀p∈ps,base.get? p.1=some p.2∧Hf p.1=none)∧∀p∈ps,p.1≠e
theorem CtxN.zero{base:Heap}{e:Addr}(c:IO e h):CtxN Hf base e h:=⟨[],trivial,c,fun _ z=>(nomatch z),fun _ z=>(nomatch z)⟩
def K2(f:Obj→Obj):Prop:=∀o vs,o.data=.fields vs→∃ws,(f o).data=.fields ws∧ws[2]? =vs[2]?
def Tm{α:Type}:Sem α→Prop
 |.pure _=>True
 |.raise _=>True
 |.unsupported _=>True
 |.rule _ k=>Tm (k ())
 |.at _ k=>Tm (k ())
 |.load _ _ k=>∀o,Tm (k o)
 |.update _ _ f k=>K2 f∧Tm (k ())
 |.loadIfAlive _ k=>∀o,Tm (k o)
 |.point _ k=>Tm (k ())
 |.alloc _ k=>∀a,Tm (k a)
 |.fresh k=>∀t,Tm (k t)
 |.handled _ k=>∀x,Tm (k x)
 |.stack k=>∀x,Tm (k x)
 |_=>False
theorem Tm.bind{k:α→Sem β}(hk:∀a,Tm (k a)):∀{t:Sem α},Tm t→Tm (t >>= k)
 |.pure a,_=>hk a
 |.raise _,_=>trivial
 |.unsupported _,_=>trivial
 |.rule _ f,h=>Tm.bind hk (t:=f ()) h
 |.at _ f,h=>Tm.bind hk (t:=f ()) h
 |.load _ _ f,h=>fun o=>Tm.bind hk (t:=f o) (h o)
 |.update _ _ g f,h=>⟨h.1,Tm.bind hk (t:=f ()) h.2⟩
 |.loadIfAlive _ f,h=>fun o=>Tm.bind hk (t:=f o) (h o)
 |.point _ f,h=>Tm.bind hk (t:=f ()) h
 |.alloc _ f,h=>fun a=>Tm.bind hk (t:=f a) (h a)
 |.fresh f,h=>fun a=>Tm.bind hk (t:=f a) (h a)
 |.handled _ f,h=>fun a=>Tm.bind hk (t:=f a) (h a)
 |.stack f,h=>fun a=>Tm.bind hk (t:=f a) (h a)
 |.finish _,h=>h.elim
 |.register _ _,h=>h.elim
 |.ask _,h=>h.elim
 |.choose _ _ _,h=>h.elim
 |.os _ _ _,h=>h.elim
 |.call _ _ _ _ _,h=>h.elim
 |.newGen _ _,h=>h.elim
 |.genState _ _,h=>h.elim
 |.resume _ _ _ _,h=>h.elim
 |.yield _ _ _ _,h=>h.elim
 |.fork _ _,h=>h.elim
 |.thread _,h=>h.elim
 |.await _ _ _ _ _,h=>h.elim
theorem CtxV.upd{v:Value}{e:Addr}{f:Obj→Obj}(x:CtxV v e h)(k:K2 f):CtxV v e (h.update a f):=by
 obtain⟨o,vs,ho,hd,h2⟩:=x
 by_cases q:a=e
 ·subst q
  obtain⟨ws,hw,e2⟩:=k o vs hd
  exact⟨_,ws,Heap.get?_update_self f ho (Obj.isFreed_of_fields hw),hw,e2.trans h2⟩
 ·exact⟨o,vs,(zF _ _ q).trans ho,hd,h2⟩
theorem jc{M:Model}{Γ:PySem.Ctx}{Q:α→Pos→Shared→Prop}{E:Value→Pos→Shared→Prop}{v:Value}{e:Addr}:∀{t:Sem α} {p:Pos} {s:Shared},Tm t→CtxV v e s.heap→Sem.wp M Γ t Q E p s→Sem.wp M Γ t (fun a p s'=>Q a p s'∧CtxV v e s'.heap) (fun x p s'=>E x p s'∧CtxV v e s'.heap) p s
 |.pure a,p,s,_,c,h=>by rw[Sem.wp]at h ⊢;exact⟨h,c⟩
 |.raise _,p,s,_,c,h=>by rw[Sem.wp]at h ⊢;exact⟨h,c⟩
 |.unsupported _,p,s,_,c,h=>by rw[Sem.wp]at h;exact h.elim
 |.rule _ f,p,s,t,c,h=>by rw[Sem.wp]at h ⊢;exact jc (t:=f ()) t c h
 |.at _ f,p,s,t,c,h=>by rw[Sem.wp]at h ⊢;exact jc (t:=f ()) t c h
 |.load _ _ f,p,s,t,c,h=>by rw[Sem.wp]at h ⊢;obtain⟨o,ho,h⟩:=h;exact⟨o,ho,jc (t:=f o) (t o) c h⟩
 |.update _ _ g f,p,s,t,c,h=>by rw[Sem.wp]at h ⊢;exact⟨h.1,jc (t:=f ()) t.2 (c.upd t.1) h.2⟩
 |.loadIfAlive _ f,p,s,t,c,h=>by rw[Sem.wp]at h ⊢;exact jc (t:=f _) (t _) c h
 |.point _ f,p,s,t,c,h=>by rw[Sem.wp]at h ⊢;exact jc (t:=f ()) t c h
 |.alloc _ f,p,s,t,c,h=>by rw[Sem.wp]at h ⊢;exact jc (t:=f _) (t _) (let ⟨o,vs,ho,r⟩:=c;⟨o,vs,eT _ ho,r⟩) h
 |.fresh f,p,s,t,c,h=>by rw[Sem.wp]at h ⊢;exact jc (t:=f _) (t _) c h
 |.handled _ f,p,s,t,c,h=>by rw[Sem.wp]at h ⊢;exact jc (t:=f _) (t _) c h
 |.stack f,p,s,t,c,h=>by rw[Sem.wp]at h ⊢;exact jc (t:=f _) (t _) c h
 |.finish _,_,_,h,_,_=>h.elim
 |.register _ _,_,_,h,_,_=>h.elim
 |.ask _,_,_,h,_,_=>h.elim
 |.choose _ _ _,_,_,h,_,_=>h.elim
 |.os _ _ _,_,_,h,_,_=>h.elim
 |.call _ _ _ _ _,_,_,h,_,_=>h.elim
 |.newGen _ _,_,_,h,_,_=>h.elim
 |.genState _ _,_,_,h,_,_=>h.elim
 |.resume _ _ _ _,_,_,h,_,_=>h.elim
 |.yield _ _ _ _,_,_,h,_,_=>h.elim
 |.fork _ _,_,_,h,_,_=>h.elim
 |.thread _,_,_,h,_,_=>h.elim
 |.await _ _ _ _ _,_,_,h,_,_=>h.elim
theorem AN{M:Model}{A:Around}{Q:α→Shared→Prop}{E:Value→Shared→Prop}{v:Value}{e:Addr}{t:Sem α}{s:Shared}(T:Tm t)(c:CtxV v e s.heap)(h:wpAny M A t Q E s):wpAny M A t (fun a s'=>Q a s'∧CtxV v e s'.heap) (fun x s'=>E x s'∧CtxV v e s'.heap) s:=fun Γ p hΓ=>jc T c (h Γ p hΓ)
theorem CtxN.upd{base:Heap}{e:Addr}{f:Obj→Obj}(x:CtxN Hf base e h)(k:K2 f):CtxN Hf base e (h.update a f):=let ⟨ps,c,v,r⟩:=x;⟨ps,c,v.upd k,r⟩
theorem yC(v:Value):Tm (fieldsOf v):=by
 unfold fieldsOf
 split
 ·refine Tm.bind (fun o=>?_) (fun o=>trivial)
  split <;> trivial
 ·trivial
theorem lh(v:Value)(i:Nat):Tm (field v i):=by
 unfold field
 refine Tm.bind (fun vs=>?_) (yC v)
 split <;> trivial
theorem uJ{i:Nat}{x:Value}(h:i≠2):K2 (Obj.mapFields (·.setIfInBounds i x)):=fun o vs hd=>⟨_,Obj.data_mapFields hd _,by rw[Array.getElem?_setIfInBounds_ne h]⟩
theorem uK(v:Value){i:Nat}(x:Value)(h:i≠2):Tm (setField v i x):=by
 unfold setField
 split
 ·unfold updateField
  refine Tm.bind (fun o=>?_) (fun o=>trivial)
  split
  ·split
   ·exact⟨uJ h,trivial⟩
   ·trivial
  ·trivial
 ·trivial
theorem yD(env:Env)(outer:List Env):Tm (behindIsImport env outer):=by
 unfold behindIsImport
 split
 ·trivial
 ·split
  ·trivial
  ·refine Tm.bind (fun a=>?_) (lh _ _)
   trivial
theorem AO:Tm underTheClaimsCaller:=by
 unfold underTheClaimsCaller
 refine Tm.bind (fun a=>?_) (fun a=>?_)
 ·trivial
 ·trivial
theorem CO(env:Env)(b:Bool)(outer:List Env):Tm (keptBack env b outer):=by
 cases outer with
 |nil=>
  show Tm (if _ then _ else _)
  by_cases h:(env.scope.isGenerator||env.scope.isCoroutine)=true
  ·rw[if_pos h];trivial
  ·rw[if_neg h]
   refine Tm.bind (fun a=>?_) AO
   trivial
 |cons c r=>trivial
theorem r8:∀l:List Env,Tm (readyFrames l)
 |[]=>trivial
 |env::outer=>by
  unfold readyFrames
  split
  ·refine Tm.bind (fun o=>?_) (fun o=>?_)
   ·split
    ·trivial
    ·refine Tm.bind (fun _=>?_) (yD _ _)
     refine Tm.bind (fun _=>?_) (CO _ _ _)
     refine Tm.bind (fun _=>r8 outer) ?_
     exact⟨fun o vs hd=>⟨vs,hd,rfl⟩,trivial⟩
   ·trivial
  ·trivial
theorem uL(env:Env):Tm (PySem.frameOf env):=by
 unfold PySem.frameOf
 refine Tm.bind (fun l=>?_) ?_
 ·refine Tm.bind (fun o=>?_) ?_
  ·split <;> trivial
  ·generalize List.dropWhile _ _=l
   cases l with
   |nil=>trivial
   |cons e r=>
    refine Tm.bind (fun _=>?_) (r8 _)
    trivial
 ·refine Tm.bind (fun a=>?_) (fun a=>?_)
  ·trivial
  ·trivial
theorem AQ(f:Addr)(b:Bool):Tm (entryPlaceOf f b):=by
 unfold entryPlaceOf
 refine Tm.bind (fun l=>?_) (fun _=>?_)
 ·split <;> trivial
 ·trivial
theorem FI(ty:String)(vs:List Value):Tm (newFields ty vs):=by
 show Tm (if _ then _ else _)
 split
 ·trivial
 ·refine Tm.bind (fun _=>?_) (fun _=>?_)
  ·trivial
  ·trivial
theorem m8(e:Value)(env:Env):Tm (noteFrame e env):=by
 have last:∀(hd:Value) (f:Addr),Tm (do setField e 1 (←EntryCells.newEntry hd (←PySem.frameOf env) .none (rawInt f) .none (←entryPlaceOf f (hd !=.none)))):=fun hd f=>by
  refine Tm.bind (fun fr=>?_) (uL _)
  refine Tm.bind (fun pl=>?_) (AQ _ _)
  refine Tm.bind (fun en=>?_) (FI _ _)
  exact uK _ _ (by decide)
 unfold noteFrame
 split
 ·refine Tm.bind (fun hd=>?_) (lh _ _)
  split
  ·refine Tm.bind (fun w=>?_) (lh _ _)
   split
   ·trivial
   ·refine Tm.bind (fun _=>last _ _) (uK _ _ (by decide))
  ·exact last _ _
 ·trivial
theorem lX(e:Value):Tm (setFlight e none):=by
 unfold setFlight
 refine Tm.bind (fun tb=>?_) (lh _ _)
 split
 ·exact uK _ _ (by decide)
 ·trivial
theorem n_(env:Env)(e:Value):Tm (leaving env e):=by
 unfold leaving
 exact Tm.bind (fun _=>lX e) (m8 e env)
def FlyC(Hf:Hp)(base:Heap)(l:List Env)(e:Addr)(cls a0:Value)(h:Heap):Prop:=base.StaysIn h∧base.get? e=none∧h.FunFrames base l∧h.TracedW base e cls a0∧CtxN Hf base e h
def HeldC(Hf:Hp)(base:Heap)(l:List Env)(e:Addr)(cls a0:Value)(L:Addr)(h:Heap):Prop:=base.StaysIn h∧base.get? e=none∧h.FunFrames base l∧h.TracedAtW base e cls a0 (rawInt L)∧CtxN Hf base e h
section
variable {M:Model} {A:Around} {E:Value→Shared→Prop} {s:Shared} {Hf:Hp} {base:Heap} {env:Env} {outer l:List Env} {L e:Addr} {cls a0:Value} {Q:Unit→Shared→Prop} {h:Heap}
theorem FlyC.to(x:FlyC Hf base l e cls a0 h):Heap.FlyingW base l e cls a0 h:=⟨x.1,x.2.1,x.2.2.1,x.2.2.2.1⟩
theorem FlyC.of(x:Heap.FlyingW base l e cls a0 h)(c:CtxN Hf base e h):FlyC Hf base l e cls a0 h:=⟨x.1,x.2.1,x.2.2.1,x.2.2.2,c⟩
theorem HeldC.to(x:HeldC Hf base l e cls a0 L h):Heap.HeldW base l e cls a0 L h:=⟨x.1,x.2.1,x.2.2.1,x.2.2.2.1⟩
theorem HeldC.of(x:Heap.HeldW base l e cls a0 L h)(c:CtxN Hf base e h):HeldC Hf base l e cls a0 L h:=⟨x.1,x.2.1,x.2.2.1,x.2.2.2,c⟩
theorem FlyC.there(x:FlyC Hf base l e cls a0 h):∃ob,h.get? e=some ob∧ob.cls=cls:=x.to.there
theorem FlyC.first(x:FlyC Hf base l e cls a0 h):∃oe vs,h.get? e=some oe∧oe.cls=cls∧oe.data=.fields vs∧vs[0]? =some a0:=x.to.first
theorem oa{t:Sem Unit}{P:Heap→Prop}(T:Tm t)(c:CtxN Hf base e s.heap)(k:∀{Q:Unit→Shared→Prop},(∀h',P h'→Q () {s with heap:=h'})→wpAny M A t Q E s)(hQ:∀h',P h'→CtxN Hf base e h'→Q () {s with heap:=h'}):wpAny M A t Q E s:=by
 obtain⟨ps,cp,c,r1,r2⟩:=c
 exact zz2 (AN T c (k (Q:=fun _ s'=>∃h',P h'∧s'={s with heap:=h'}) fun h' p=>⟨h',p,rfl⟩)) (fun _ s' ⟨⟨h',p,z⟩,c'⟩=>by subst z;exact hQ h' p ⟨ps,cp,c',r1,r2⟩) fun _ _ z=>z.1
theorem og(hfr:A.frames=some (env::outer))(hf:env.frame=some L)(hfl:FlyC Hf base (env::outer) e cls a0 s.heap)(hQ:∀h',FlyC Hf base outer e cls a0 h'→s.heap.UpToSlots h'→Q () {s with heap:=h'}):wpAny M A (leaving env (.ref e)) Q E s:=
 oa (P:=fun h'=>Heap.FlyingW base outer e cls a0 h'∧s.heap.UpToSlots h') (n_ _ _) hfl.2.2.2.2 (fun k=>wpAny_leaves_onW hfr hf hfl.to fun h' a b=>k h' ⟨a,b⟩) fun h' p c=>hQ h' (.of p.1 c) p.2
theorem jW(hfr:A.frames=some (env::outer))(hf:env.frame=some L)(hfl:FlyC Hf base (env::outer) e cls a0 s.heap)(hQ:∀h',HeldC Hf base (env::outer) e cls a0 L h'→s.heap.UpToSlots h'→Q () {s with heap:=h'}):wpAny M A (noteFrame (.ref e) env) Q E s:=
 oa (P:=fun h'=>Heap.HeldW base (env::outer) e cls a0 L h'∧s.heap.UpToSlots h') (m8 _ _) hfl.2.2.2.2 (fun k=>wpAny_looks_onW hfr hf hfl.to fun h' a b=>k h' ⟨a,b⟩) fun h' p c=>hQ h' (.of p.1 c) p.2
theorem uM(hh:HeldC Hf base l e cls a0 L s.heap)(hQ:∀h',FlyC Hf base l e cls a0 h'→s.heap.UpToSlots h'→Q () {s with heap:=h'}):wpAny M A (setFlight (.ref e) none) Q E s:=
 oa (P:=fun h'=>Heap.FlyingW base l e cls a0 h'∧s.heap.UpToSlots h') (lX _) hh.2.2.2.2 (fun k=>wpAny_landsW hh.to fun h' a b=>k h' ⟨a,b⟩) fun h' p c=>hQ h' (.of p.1 c) p.2
theorem lj(hh:FlyC Hf base l e cls a0 s.heap)(hQ:∀h',FlyC Hf base l e cls a0 h'→s.heap.UpToSlots h'→Q () {s with heap:=h'}):wpAny M A (setFlight (.ref e) none) Q E s:=
 oa (P:=fun h'=>Heap.FlyingW base l e cls a0 h'∧s.heap.UpToSlots h') (lX _) hh.2.2.2.2 (fun k=>lands_againW hh.to fun h' a b=>k h' ⟨a,b⟩) fun h' p c=>hQ h' (.of p.1 c) p.2
theorem r_(hx:Heap.MadeExcOf h h' e cls args):CtxN Hf base e h':=let ⟨_,he,_⟩:=hx.there; .zero ⟨_,_,he,rfl,rfl⟩
theorem qB(hfr:A.frames=some (env::outer))(hf:env.frame=some L)(hkb:base.StaysIn h)(hl:h.FunFrames base (env::outer))(hx:Heap.MadeExcOf h s.heap e cls args)
  (hQ:∀h' t,FlyC Hf base outer e cls (.ref t) h'→h'.TupAt t args→base.get? t=none→s.heap.UpToSlots h'→Q () {s with heap:=h'}):wpAny M A (leaving env (.ref e)) Q E s:=
 oa (P:=fun h'=>∃t,Heap.FlyingW base outer e cls (.ref t) h'∧h'.TupAt t args∧base.get? t=none∧s.heap.UpToSlots h') (n_ _ _) (r_ hx) (fun k=>wpAny_leaves_madeW hfr hf hkb hl hx fun h' t a b c d=>k h' ⟨t,a,b,c,d⟩) fun h' ⟨t,a,b,c,d⟩ z=>hQ h' t (.of a z) b c d
end
end PL
namespace PL
open PySem PySem.Spec PyProof.Rows L2 Nh
structure UnB (fs:List Addr) (H H':Hp) (h B h':Heap):Prop where
 keep:∀b o,h.get? b=some o→H b=none→b∉fs→B.get? b=some o
 slot:∀b o,h.get? b=some o→H b=none→b∈fs→∃sl,h'.get? b=some {o with slots:=sl}
 free:∀b o,h.get? b=some o→H b=none→H' b=none
 there:∀b o,h.get? b=some o→b∉fs→∃o',B.get? b=some o'
 tups:∀b xs,H b=some (.tup xs)→H' b=some (.tup xs)
 frzs:∀b o u,H b=some (.frz o u)→H' b=some (.frz o u)
 tbls:∀b ps,H b=some (.tbl ps)→H' b=some (.tbl ps)
theorem UnB.un{fs:List Addr}{B:Heap}(u:UnB fs H H' h B h')(st:B.StaysIn h')(hf:∀b∈fs,H b=none):Un fs [] H H' h h':=
 ⟨fun b o e n hb _=>st b o (u.keep b o e n hb),fun b o e n hb _=>u.slot b o e n hb,fun b o e n _=>u.free b o e n,fun b o e _=>by
  by_cases hb:b∈fs
  ·obtain⟨sl,z⟩:=u.slot b o e (hf b hb) hb
   exact⟨_,z⟩
  ·obtain⟨o',z⟩:=u.there b o e hb
   exact⟨o',st b o' z⟩,u.tups,u.frzs,u.tbls⟩
theorem UnB.on{l:List Env}{B:Heap}(u:UnB (gb l) H H' h B h')(ff:h'.FunFrames B l)(k:h'.UpToSlots h2):UnB (gb l) H H' h B h2:=
 ⟨u.keep,fun b o e n hb=>by
  obtain⟨sl,z⟩:=u.slot b o e n hb
  obtain⟨_,o',ho',hd⟩:=ff.mem hb
  rw[z]at ho'
  cases ho'
  obtain⟨sl2,z2⟩:=k b _ z hd
  exact⟨sl2,z2⟩,u.free,u.there,u.tups,u.frzs,u.tbls⟩
theorem UnB.out{σ:L2.St}{s:Shared}{B:Heap}(I:Inv X pins σ H s)(hx:X.ex=[])(u:UnB (gb X.stack) H H' s.heap B h'):UnB X.fs X.H₀ H' X.s₀.heap B h':=by
 have nx:∀b:Addr,b∉X.ex:=fun b z=>by rw[hx]at z;cases z
 have ne:∀b o,X.s₀.heap.get? b=some o→b≠X.env.locals:=fun b o e=>eU (kT (eI e) I.ok.above)
 have nf:∀b o,X.s₀.heap.get? b=some o→b∉X.fs→b∉gb X.stack:=fun b o e hb z=>(Zai.mp (I.stkSub b z)).elim (ne b o e) hb
 refine⟨fun b o e n hb=>u.keep b o (I.base.keep b o e n hb (nx b)) (I.base.free b o e n (nx b)) (nf b o e hb),fun b o e n hb=>?_,fun b o e n=>?_,fun b o e hb=>?_,fun b xs e=>u.tups b xs (I.base.tups b xs e),fun b o v e=>u.frzs b o v (I.base.frzs b o v e),fun b ps e=>u.tbls b ps (I.base.tbls b ps e)⟩
 ·obtain⟨sl,z⟩:=I.base.slot b o e n hb (nx b)
  have hb':b∈gb X.stack:=by
   rcases I.ok.stk with q |⟨q,hf⟩
   ·rw[q];exact hb
   ·rw[q];unfold gb;rw[List.filterMap_cons,hf];exact gW _ hb
  obtain⟨sl2,z2⟩:=u.slot b _ z (I.base.free b o e n (nx b)) hb'
  exact⟨sl2,z2⟩
 ·obtain⟨o',z⟩:=I.base.there b o e (nx b)
  exact u.free b o' z (I.base.free b o e n (nx b))
 ·obtain⟨o',z⟩:=I.base.there b o e (nx b)
  exact u.there b o' z (nf b o e hb)
theorem mH{w:World}{o:HO}(x:ObjOk P w H h a o):∃u,h.get? a=some u:=by
 cases o with
 |lst xs=>obtain⟨_,_,_,_,e⟩:=x;exact⟨_,e⟩
 |tup xs=>obtain⟨_,_,_,o,e,_⟩:=x;exact⟨_,e⟩
 |dK kvs=>obtain⟨_,_,_,_,o,_,_,e,_⟩:=x;exact⟨_,e⟩
 |dT kvs=>obtain⟨_,_,_,_,o,_,_,e,_⟩:=x;exact⟨_,e⟩
 |set S n=>obtain⟨o,_,_,_,e,_⟩:=x;exact⟨_,e⟩
 |ins C dx fs=>obtain⟨_,_,_,e,_⟩:=x;exact⟨_,e⟩
 |own y=>obtain⟨_,e⟩:=x;exact⟨_,e⟩
 |xd fs=>obtain⟨_,⟨_,_,_,e,_⟩,_⟩:=x;exact⟨_,e⟩
 |rng lo hi=>obtain⟨_,_,_,e⟩:=x;exact⟨_,e⟩
 |frz ob u=>obtain⟨e,_⟩:=x;exact⟨_,e⟩
 |tbl q=>obtain⟨_,e,_⟩:=x;exact⟨_,e⟩
 |met f y=>exact⟨_,(show h.get? a=some _ from x)⟩
 |ext φ=>obtain⟨_,⟨_,e⟩,_⟩:=x;exact⟨_,e⟩
def D4(P:Program)(w:World):zR:=fun outer H s E e s'=>∃H' ea C a0 B,e=.ref ea∧E (.ref C) none H'∧s'.os=s.os∧AllBare s'.gens∧FlyC H' B outer ea (.ref C) a0 s'.heap∧HOk P w H' B∧UnB (gb outer) H H' s.heap B s'.heap
def AR(X:Cx)(C:Addr)(pins:List (Addr×Obj))(σ:L2.St)(H:Hp):Prop:=∀s h' ea vs,Inv X pins σ H s→Heap.MadeExcOf s.heap h' ea (.ref C) vs→X.xe (.ref ea) {s with heap:=h'}
def AS(X:Cx)(C:Addr)(pins:List (Addr×Obj))(σ:L2.St)(H':Hp):Prop:=∀H s ea s' a0 B,Inv X pins σ H s→s'.os=s.os→AllBare s'.gens→FlyC H' B X.stack ea (.ref C) a0 s'.heap→HOk X.prog X.w H' B→UnB (gb X.stack) H H' s.heap B s'.heap→X.xe (.ref ea) s'
def se(X:Cx)(C:Addr)(pins:List (Addr×Obj))(σ:L2.St)(H':Hp):Prop:=∀H s ea s' a0 B,Inv X pins σ H s→s'.os=s.os→AllBare s'.gens→HeldC H' B X.stack ea (.ref C) a0 X.env.locals s'.heap→HOk X.prog X.w H' B→UnB (gb X.stack) H H' s.heap B s'.heap→X.xe (.ref ea) s'
theorem sf{M:Model}{A:Around}{E:Value→Shared→Prop}{s:Shared}{base:Heap}{env:Env}{outer:List Env}{e:Addr}{cls:Value}{Q:Unit→Shared→Prop}(hf:env.frame=some L)(hh:HeldC Hf base (env::outer) e cls a0 L s.heap)
  (hQ:∀h',FlyC Hf base outer e cls a0 h'→s.heap.UpToSlots h'→Q () {s with heap:=h'}):wpAny M A (leaving env (.ref e)) Q E s:=by
 unfold leaving
 refine zz0 (wpAny_noteFrame_againW hf hh.2.2.2.1 ?_)
 refine uM hh fun h' hfl k=>?_
 obtain⟨k1,k2,⟨_,_,k3⟩,k4⟩:=hfl
 exact hQ h' ⟨k1,k2,k3,k4⟩ k
section
variable {P:Program} {w:World} {K:Frag} {mg:Str→Option Value} {base:Heap} {N:List Str} {qual:Str} {scope:Scope} {f:Addr} {cd:Value} {A:Around} {outer:List Env} {s:Shared} {H H':Hp} {E:XK} {C:Addr} {pins:List (Addr×Obj)} {σ:L2.St}
theorem CP(hE:E (.ref C) none H'):AR (gf (D4 P w) P w K mg base N qual scope f cd A outer s H E) C pins σ H':=by
 intro s1 h' ea vs I hx
 show wpAny (model P w) _ (leaving _ (.ref ea)) _ _ _
 have st:=I.stack
 have hin:∀env∈(gf (D4 P w) P w K mg base N qual scope f cd A outer s H E).stack,∀b,env.frame=some b→b∈gb (gf (D4 P w) P w K mg base N qual scope f cd A outer s H E).stack:=fun env he b hb=>List.mem_filterMap.mpr ⟨env,he,hb⟩
 refine qB (Hf:=H') (base:=hideAll s1.heap (gb (gf (D4 P w) P w K mg base N qual scope f cd A outer s H E).stack)) (h:=s1.heap) I.ok.frames rfl (fun b o q=>of_hideAll _ q) (funFrames_hide st hin) hx fun h2 t x1 x2 x3 x4=>?_
 refine⟨H',ea,C,_,_,rfl,hE,I.os,I.bare,x1,fun a o e=>?_,?_⟩
 ·refine(I.hok a o e).stay (fun b u hb q=>hideAll_get _ q fun z=>?_) (fun _ q=>q) fun _ _ q=>q
  have n:=I.stkFree b z
  rcases hb with rfl |hb
  ·rw[n]at e;cases e
  ·rw[n]at hb;cases hb
 ·refine UnB.out I rfl ⟨fun b o e n hb=>hideAll_get _ e hb,fun b o e n hb=>?_,fun _ _ _ n=>n,fun b o e hb=>⟨o,hideAll_get _ e hb⟩,fun _ _ e=>e,fun _ _ _ e=>e,fun _ _ e=>e⟩
  obtain⟨_,o',ho',hd⟩:=st.mem hb
  rw[e]at ho'
  cases ho'
  exact x4 b o (hx.keeps b o e) hd
theorem FJ(hE:E (.ref C) none H'):AS (gf (D4 P w) P w K mg base N qual scope f cd A outer s H E) C pins σ H':=by
 intro H1 s1 ea s' a0 B I os bare fl hok u
 show wpAny (model P w) _ (leaving _ (.ref ea)) _ _ _
 refine og I.ok.frames rfl fl fun h2 x1 x2=>?_
 exact⟨H',ea,C,a0,B,rfl,hE,os.trans I.os,bare,x1,hok,UnB.out I rfl (u.on fl.2.2.1 x2)⟩
theorem CQ(hE:E (.ref C) none H'):se (gf (D4 P w) P w K mg base N qual scope f cd A outer s H E) C pins σ H':=by
 intro H1 s1 ea s' a0 B I os bare fl hok u
 show wpAny (model P w) _ (leaving _ (.ref ea)) _ _ _
 refine sf rfl fl fun h2 x1 x2=>?_
 exact⟨H',ea,C,a0,B,rfl,hE,os.trans I.os,bare,x1,hok,UnB.out I rfl (u.on fl.2.2.1 x2)⟩
end
abbrev fI:=List Sl→Option (Str×List Sl)
def BY(X:Cx)(mk al:Bool)(body:List Stmt)(r:fI):Prop:=∀pins s σ H B E n E',Inv X pins σ H s→Frm X.K B σ H E [] []→r E=some (n,E')→
 (∀pins',(al=false→pins'=pins)→∀σ' C H',nsIn X.K mainGlobals n=some (some (.ref C))→Frm X.K B σ' H' E' [] []→(mk=true→AR X C pins' σ' H')∧AS X C pins' σ' H'∧(al=true→se X C pins' σ' H'))→wpAny (model X.prog X.w) X.A (execs body X.env) (fun _ _=>False) X.xe s
def RX(X:Cx)(mk al:Bool)(st:Stmt)(r:fI):Prop:=∀pins s σ H B E n E',Inv X pins σ H s→Frm X.K B σ H E [] []→r E=some (n,E')→
 (∀pins',(al=false→pins'=pins)→∀σ' C H',nsIn X.K mainGlobals n=some (some (.ref C))→Frm X.K B σ' H' E' [] []→(mk=true→AR X C pins' σ' H')∧AS X C pins' σ' H'∧(al=true→se X C pins' σ' H'))→wpAny (model X.prog X.w) X.A (exec st X.env) (fun _ _=>False) X.xe s
def il(g:cZ)(r:fI):fI:=fun E=>match g E with
 |some (E',.nx)=>r E'
 |_=>none
def pN(t:iT)(r:fI):fI:=fun E=>match t E with
 |some (true,E')=>r E'
 |_=>none
def si(r q:fI):fI:=fun E=>match r E with
 |some x=>some x
 |none=>q E
def iP(n:Str):fI:=fun E=>some (n,E)
section
variable {X:Cx} {mk al:Bool} {st:Stmt} {dO a b:List Stmt} {g:cZ} {r:fI} {c:Expr} {m:Bool} {t:iT} {pos:Pos}
theorem bn(h:RX X mk al st r):BY X mk al (st::dO) r:=fun pins s σ H B E n E' I fr e k=>
 wpAny_execs_cons (zz2 (h pins s σ H B E n E' I fr e k) (fun _ _ z=>z.elim) fun _ _ z=>z)
theorem io(h1:SX X.nox st g)(h2:BY X mk al dO r):BY X mk al (st::dO) (il g r):=fun pins s σ H B E n E' I fr e k=>by
 unfold il at e
 split at e
 ·rename_i E1 eg
  have q:=h1 pins s σ H {nx:=fun σ' H'=>Frm X.K B σ' H' E1 [] [],bk:=fun _ _=>False,ct:=fun _ _=>False,rt:=fun _ _=>False} (I.wish _) ⟨B,E,[],[],E1,.nx,fr,rfl,eg,fun σ' H' f=>f⟩
  refine wpAny_execs_cons (zz2 q (fun f s1 z=>?_) fun _ _ z=>z.elim)
  cases f with
  |next=>obtain⟨σ',H',I',fr'⟩:=z;exact h2 pins s1 σ' H' B E1 n E' I'.unwish fr' e k
  |brk=>obtain⟨_,_,_,z⟩:=z;exact z.elim
  |cont=>obtain⟨_,_,_,z⟩:=z;exact z.elim
  |ret u=>obtain⟨_,_,_,_,_,z⟩:=z;exact z.elim
 ·cases e
theorem pO(hc:TX X.nox c m t)(h:BY X mk al a r):RX X mk al (.If c a b pos) (pN t r):=fun pins s σ H B E n E' I fr e k=>by
 unfold pN at e
 split at e
 ·rename_i E1 et
  have q:=hc pins s σ H (fun bb H1=>bb=true∧Frm X.K B σ H1 E1 [] []) (I.wish _) ⟨B,E,[],[],true,E1,fr,fun _=>Calm.nil rfl,et,fun H1 f=>⟨rfl,f⟩⟩
  refine wpAny_If (zz2 q (fun bb s1 z=>?_) fun _ _ z=>z.elim)
  obtain⟨H1,I1,rfl,fr1⟩:=z
  exact h pins s1 σ H1 B E1 n E' I1.unwish fr1 e k
 ·cases e
theorem pP{q:fI}(h1:BY X mk al a r)(h2:BY X mk al a q):BY X mk al a (si r q):=fun pins s σ H B E n E' I fr e k=>by
 unfold si at e
 split at e
 ·rename_i x ex
  cases e
  exact h1 pins s σ H B E n E' I fr ex k
 ·exact h2 pins s σ H B E n E' I fr e k
end
end PL
namespace PL
open PySem PySem.Spec PyProof.Rows L2 Nh
abbrev Id:List Value:=[.type "ValueError",.type "Exception",.type "BaseException",.type "object"]
structure XC (K:Frag) (mg:Str→Option Value) (x:Str) (C:Addr):Prop where
 ns:nsIn K mainGlobals x=some (some (.ref C))
 mg:mg x=some (.ref C)
 ex:excIn K C Id "ValueError.__new__"=true
 cls:ExCls K C
theorem AT{K:Frag}{mg:Str→Option Value}{bmB:List Value}{newId:String}(X:K.In h)(m:mg x=some (.ref C))(q:excIn K C bmB newId=true):OwnCls x C bmB newId mg h:=by
 refine⟨m,?_⟩
 unfold excIn at q
 split at q
 ·rename_i dd cd sl ho
  split at q
  ·rename_i C' bm k0 k1 k2 k3 n k5 hm hs
   simp only[qZ,beq_iff_eq,Bool.not_eq_true']at q
   obtain⟨⟨⟨⟨⟨rfl,rfl⟩,hdel⟩,ht⟩,hok⟩,hni⟩:=q
   obtain⟨nm,bs,mro,ns,qn,hd,sn,sub,ab,col,del⟩:=cd
   dsimp only at hm hdel hok hni
   subst hm hdel
   have hsl:sl=#[k0,k1,k2,k3,some (.builtin n),k5]:=by
    obtain⟨l⟩:=sl
    simp only at hs
    rw[hs]
   subst hsl
   exact⟨bm,ns,nm,qn,bs,hd,sn,sub,ab,col,dd,k0,k1,k2,k3,k5,_,X _ _ ho,.of_isNs (PySem.W.isNs_of_in X hok),PySem.W.nsMap_none_of_in X hok hni,PySem.W.tail_of_in X ht⟩
  ·cases q
 ·cases q
section
variable {X:Cx} {mk al:Bool} {x:Str} {C:Addr} {np p cpos pos:Pos}
theorem g5{tx:Str}  (hcalm:X.calm=true) (hg:Gl X x) (Z:XC X.K X.mg x C) (hd:(x == ("__debug__":Str))=false:=by decide)
  (he:starEach [.Constant (.str tx) j p] X.env=[(false,eval (.Constant (.str tx) j p) X.env)]:=by rfl):
  RX X true al (.Raise (some (.Call (.Name x np) [.Constant (.str tx) j p] [] cpos)) none pos) (iP x):=fun pins s σ H B E n E' I fr e k=>by
 cases e
 obtain⟨tl,N,nm,q,bs,hdct,sn,sub,ab,col,dd,k0,k1,k2,k3,k5,mN,hC,hN,hni,T⟩:=(AT I.ok.mod.kin Z.mg Z.ex).obj
 refine wpAny_Raise_call_subT (C:=C) (nm:=nm) (q:=q) (N:=N) (bs:=bs) (bm:=tl) (hdct:=hdct) (sn:=sn) (sub:=sub) (ab:=ab) (col:=col) (dd:=dd) (k0:=k0) (k1:=k1) (k2:=k2) (k3:=k3) (k5:=k5)
  PySem.F.excBase_ValueError (mN:=mN) (T.hasType PySem.F.excBase_ValueError.hasBase) (I.ok.hd hcalm) (by rw[he];rfl) hni (fi I hg Z.mg ⟨rfl,?_⟩ hd)
 have q1:=cP (X:=X) (p_ (x:=tx) (j:=j) (pos:=p)) eJ he cpos pins s σ H (fun vs H1=>vs=[.str tx]∧H1=H) I ⟨rfl,rfl⟩
 rw[he]at q1 ⊢
 refine Calls.evalArgs_plain (ce q1 fun vs s2 ⟨us,H2,I2,r,eu,eH⟩=>?_)
 subst eu eH
 have fin:=(k pins (fun _=>rfl) σ C H2 Z.ns fr).1 rfl
 exact⟨rfl,by rw[←r.length];exact Nat.le_of_ble_eq_true rfl,I2.bk _ _ hC,hN.keeps I2.bk,T.keeps I2.bk,fun h' ea hm=>fin s2 h' ea vs I2 hm⟩
end
def qC(K:Frag)(r:List PyData→Option Str):Sp:=fun vs H _ E=>∃ds n,r ds=some n∧RpA K H vs ds∧∀C H',nsIn K mainGlobals n=some (some (.ref C))→Same H H'→E (.ref C) none H'
structure OwnR (P:Program) (w:World) (K:Frag) (mg:Str→Option Value) (base:Heap) (k:Nat) (x:Str) (ps:List Str) (sp:Sp):Prop where
 ex:∃(f:Addr) (fd:FuncData),FnOk P w K mg base (D4 P w) k f fd ps sp∧Binds K fd ps []∧mg x=some (.ref f)∧keepIn K (.ref f)=true
def cB(r:List PyData→Option Str)(g:lM):fI:=fun E=>(g E).bind fun a=>(fT a.2 a.1).bind fun ds=>(r ds).map fun n=>(n,a.2)
section
variable {X:Cx} {k:Nat} {x:Str} {ps:List Str} {r:List PyData→Option Str} {p pos cpos:Pos} {e:Expr} {es:List Expr} {m:Bool} {g:lM}
theorem g7(D:OwnR X.prog X.w X.K X.mg X.base k x ps (qC X.K r)) (hr:Room k X.A) (hg:Gl X x) (ha:AX X.nox (e::es) m g) (hdb:(x == ("__debug__":Str))=false) (he:starEach (e::es) X.env=(false,eval e X.env)::starEach es X.env) (hpl:(backTo pos (starEach es X.env)).any (·.1)=false)
   {s:Shared} {σ:L2.St} {B:Hp}  {n:Str} (I:Inv X pins σ H s) (fr:Frm X.K B σ H E [] []) (ee:cB r g E=some (n,E')) (k:∀C H',nsIn X.K mainGlobals n=some (some (.ref C))→Frm X.K B σ H' E' [] []→AS X C pins σ H'):
  wpAny (model X.prog X.w) X.A (eval (.Call (.Name x p) (e::es) [] pos) X.env) (fun _ _=>False) X.xe s:=by
 obtain⟨f,fd,F,b,mx,kp⟩:=D.ex
 obtain⟨⟨rs,E1⟩,e1,ee⟩:=Za.mp ee
 obtain⟨ds,e2,ee⟩:=Za.mp ee
 obtain⟨n',e3,ee⟩:=Zab.mp ee
 cases ee
 refine zz6 (fi I hg mx ?_ hdb)
 have q1:=ha pos pins s σ H (fun vs H1=>vs.length=rs.length∧Frm X.K B σ H1 E1 (vs.reverse++[]) (rs.reverse++[])) (I.wish _) ⟨B,E,[],[],rs,E1,fr,fun _=>Calm.nil rfl,e1,fun vs H1 hl f=>⟨hl,f⟩⟩
 refine callWith_K (h₀:=X.base) I.ok.mod.kin kp (zz2 q1 (fun us s1 ⟨vs,H1,I1,rv,hl,F1,A1,fr1⟩=>⟨I1.kIn,?_⟩) fun _ _ z=>z.elim) he hpl
 have I1:=I1.unwish
 obtain⟨r1,A',fr2⟩:=fr1.looks hl e2
 have hlen:(us++[]).length=ps.length:=by
  rw[tL,←rv.length]
  exact F.len vs H1 (fun _ _=>False) (fun _ _ _=>True) ⟨ds,n,e3,r1,fun _ _ _ _=>trivial⟩
 have bd:=b s1 us I1.kIn hlen
 rw[tL]at bd
 refine wpAny_call (codeAny_mono (F.run X.A X.stack s1 H1 ⟨us,[]⟩ us vs (fun _ _=>False) (fun c _ H'=>∃C,c=.ref C∧nsIn X.K mainGlobals n=some (some (.ref C))∧Same H1 H') hr I1.env0 bd rv ⟨ds,n,e3,r1,fun C H' z g=>⟨C,rfl,z,g⟩⟩) fun rr s' hq=>?_)
 cases rr with
 |error er=>
  obtain⟨H',ea,C,a0,B',rfl,⟨C',eC,ns,g⟩,os,bare,fl,hok,u⟩:=hq
  cases eC
  exact k C H' ns ⟨_,_,fr2.grow g⟩ H1 s1 ea s' a0 B' I1 os bare fl hok u
 |ok fl=>
  cases fl with
  |ret u=>obtain⟨_,_,_,_,_,_,_,z⟩:=hq;exact z
  |next=>exact False.elim hq
  |brk=>exact False.elim hq
  |cont=>exact False.elim hq
theorem m9(D:OwnR X.prog X.w X.K X.mg X.base k x ps (qC X.K r)) (hr:Room k X.A) (hg:Gl X x) (ha:AX X.nox (e::es) m g) (hs:swapsWith (.Call (.Name x p) (e::es) [] cpos) none pos.line X.env=pure false:=by rfl) (hdb:(x == ("__debug__":Str))=false:=by decide) (he:starEach (e::es) X.env=(false,eval e X.env)::starEach es X.env:=by rfl) (hpl:(backTo cpos (starEach es X.env)).any (·.1)=false:=by rfl) {al:Bool}:
  RX X mk al (.Expr (.Call (.Name x p) (e::es) [] cpos) pos) (cB r g):=fun pins s σ H B E n E' I fr ee k=>
 wpAny_Expr_any (ce (g7 D hr hg ha hdb he hpl I fr ee fun C H' z f=>(k pins (fun _=>rfl) σ C H' z f).2.1) fun _ _ z=>z.elim) I.quiet hs
theorem uN(D:OwnR X.prog X.w X.K X.mg X.base k x ps (qC X.K r)) (hr:Room k X.A) (hg:Gl X x) (ha:AX X.nox (e::es) m g) (hdb:(x == ("__debug__":Str))=false:=by decide) (he:starEach (e::es) X.env=(false,eval e X.env)::starEach es X.env:=by rfl) (hpl:(backTo cpos (starEach es X.env)).any (·.1)=false:=by rfl) {al:Bool}:
  RX X mk al (.Return (some (.Call (.Name x p) (e::es) [] cpos)) pos) (cB r g):=fun pins s σ H B E n E' I fr ee k=>
 wpAny_Return_some (ce (g7 D hr hg ha hdb he hpl I fr ee fun C H' z f=>(k pins (fun _=>rfl) σ C H' z f).2.1) fun _ _ z=>z.elim)
theorem FK{y:Str}  (D:OwnR X.prog X.w X.K X.mg X.base k x ps (qC X.K r)) (hr:Room k X.A) (hg:Gl X x) (ha:AX X.nox (e::es) m g) (hs:swapsWith (.Call (.Name x p) (e::es) [] cpos) (some (.Name y pos')) pos.line X.env=pure false:=by rfl) (hdb:(x == ("__debug__":Str))=false:=by decide) (he:starEach (e::es) X.env=(false,eval e X.env)::starEach es X.env:=by rfl) (hpl:(backTo cpos (starEach es X.env)).any (·.1)=false:=by rfl) {al:Bool}:
  RX X mk al (.Assign [.Name y pos'] (.Call (.Name x p) (e::es) [] cpos) pos) (cB r g):=fun pins s σ H B E n E' I fr ee k=>
 wpAny_Assign_Name (ce (g7 D hr hg ha hdb he hpl I fr ee fun C H' z f=>(k pins (fun _=>rfl) σ C H' z f).2.1) fun _ _ z=>z.elim) hs
end
def rh(k n:Nat)(r:fI):List PyData→Option Str:=fun ds=>if ds.length=k then (r (cI n ds)).map (·.1)else none
theorem oh{w:World}{K:Frag}{mg:Str→Option Value}{base:Heap}{N:List Str}{a:Nat}{r:fI}{al:Bool}(D:Def K mg x st ps)(S:FnScope N ps (ai st))(hpa:ps.length=a)(hNn:N.length=n)(hps:a≤n)
  (hbody:∀(f:Addr) (cdv:Value) (A:Around) (outer:List Env) (s:Shared) (H:Hp) (E:XK),Room k (A.deeper (PyProof.Rows.envOfC x (ai st) s.heap.objs.size f cdv))→
   BY (gf (D4 P w) P w K mg base N x (ai st) f cdv A outer s H E) mk al (a6 st) r):OwnR P w K mg base (k+1) x ps (qC K (rh a n r)):=by
 subst hpa hNn
 obtain⟨f,fd,F,mx,b⟩:=D.ex
 have kp:=F.kp
 obtain⟨oc,od,kV,doc,pm,an,cdv,ct,osl,rfl,lk,hcd⟩:=F.ex
 refine⟨f,_,vR lk hcd S (fun vs H Q E h=>?_) fun A outer s H vs Q E hr h=>?_,b,mx,kp⟩
 ·obtain⟨ds,n,e,rp,_⟩:=h
  unfold rh at e
  split at e
  ·rename_i hl
   rw[rp.len];exact hl
  ·cases e
 obtain⟨ds,n,e,rp,q⟩:=h
 unfold rh at e
 split at e
 ·rename_i hl
  obtain⟨⟨n',E'⟩,er,z⟩:=Zab.mp e
  cases z
  refine⟨fun D σ H'=>σ=dE N vs∧H'=H,fun pins s1 σ H1 D I z=>?_,rfl,rfl⟩
  obtain⟨rfl,rfl⟩:=z
  refine ce (hbody f cdv A outer s H1 E hr pins s1 _ H1 H1 (cI N.length ds) n' E' I ⟨H1,[],jR rp (by omega)⟩ er fun _ _ σ' C H' ns ⟨F',A',fr'⟩=>?_) fun _ _ z=>z.elim
  have hE:=q C H' ns (fr'.bf.trans fr'.fh)
  exact⟨fun _=>CP hE,FJ hE,fun _=>CQ hE⟩
 ·cases e
end PL
namespace PL
open PySem PySem.Spec PyProof.Rows L2 Nh
abbrev Gr(X:Cx)(ea:Addr):Cx:={X with A:=X.A.mark (some (.ref ea)),calm:=false,xe:=fun _ _=>False}
abbrev hX(X:Cx)(ea:Addr)(oe:Obj)(C:Addr)(ex:List (Addr×Obj)):Cx:={X with A:=X.A.mark (some (.ref ea)),calm:=false,xe:=fun _ _=>False,H₀:=upd X.H₀ ea (.frz oe (.ext (eV ea C))),pn:=ex++X.pn}
def sj(X:Cx)(H:Hp)(h:Heap)(p:Addr×Obj):Prop:=h.get? p.1=some p.2∧H p.1=none∧p.1≠X.env.locals∧p.1∉X.fs∧∀v,p.2.data≠ .cell v
structure EaNew (X:Cx) (ea:Addr):Prop where
 s0:X.s₀.heap.get? ea=none
 nt:∀xs,X.H₀ ea≠some (.tup xs)
 nf:∀o u,X.H₀ ea≠some (.frz o u)
 nb:∀q,X.H₀ ea≠some (.tbl q)
section
variable {X:Cx} {pins:List (Addr×Obj)} {σ:L2.St} {H:Hp} {s:Shared} {ea:Addr}
theorem lm(I:Inv X pins σ H s):Inv (Gr X ea) pins σ H s:=
 let ok:=I.ok
 ⟨⟨ok.mod,ok.kind,ok.glob,ok.blt,ok.above,ok.inj,ok.has,ok.cab,fun z=>(nomatch z),ok.frames,ok.stk,ok.exf,ok.bs,ok.bsz,ok.noex,ok.exfs,ok.funs,ok.frf,ok.tab⟩,I.os,I.bare,I.base,I.loc,I.cell,I.free,I.freeC,I.pin,I.hok,I.len⟩
theorem CS{ex:List (Addr×Obj)}(I:Inv X pins σ H s)(n:EaNew X ea)(hH:H ea=some (.frz oe (.ext (eV ea C))))(hp:∀p∈ex,sj X H s.heap p):Inv (hX X ea oe C ex) pins σ H s:=by
 have ok:=I.ok
 have ne:∀b o,X.s₀.heap.get? b=some o→b≠ea:=fun b o e z=>by rw[z,n.s0]at e;cases e
 have up:∀b u,(upd X.H₀ ea (.frz oe (.ext (eV ea C)))) b=u→b≠ea→X.H₀ b=u:=fun b u e z=>by rw[aF z]at e;exact e
 refine⟨⟨ok.mod,ok.kind,ok.glob,ok.blt,ok.above,ok.inj,ok.has,ok.cab,fun z=>(nomatch z),ok.frames,ok.stk,ok.exf,fun b o e=>?_,ok.bsz,ok.noex,ok.exfs,ok.funs,fun b hb=>?_,fun b q e=>?_⟩,I.os,I.bare,⟨fun b o e h=>I.base.keep b o e (up b _ h (ne b o e)),fun b o e h=>I.base.slot b o e (up b _ h (ne b o e)),fun b o e h=>I.base.free b o e (up b _ h (ne b o e)),I.base.there,fun b xs e=>?_,fun b o u e=>?_,fun b q e=>?_⟩,I.loc,I.cell,I.free,I.freeC,fun p q=>?_,I.hok,I.len⟩
 ·obtain⟨e1,e2⟩:=ok.bs b o e
  exact⟨e1,(aF (ne b o e1)).trans e2⟩
 ·obtain⟨_,o,e1,_⟩:=ok.funs.mem hb
  exact(aF (ne b o e1)).trans (ok.frf b hb)
 ·refine(aF fun z=>?_).trans (ok.tab b q e)
  subst z
  exact n.nb q (ok.tab _ q e)
 ·by_cases z:b=ea
  ·subst z
   replace e:=upd_same.symm.trans e
   cases e
  ·exact I.base.tups b xs (up b _ e z)
 ·by_cases z:b=ea
  ·subst z
   replace e:=upd_same.symm.trans e
   cases e
   exact hH
  ·exact I.base.frzs b o u (up b _ e z)
 ·by_cases z:b=ea
  ·subst z
   replace e:=upd_same.symm.trans e
   cases e
  ·exact I.base.tbls b q (up b _ e z)
 ·rcases Zaf.mp q with q |q
  ·rcases Zaf.mp q with q |q
   ·exact hp p q
   ·exact I.pin p (wR _ q)
  ·exact I.pin p (kf _ q)
theorem Hh{ex:List (Addr×Obj)}(I:Inv X pins σ H s)(hp:∀p∈ex,sj X H s.heap p):Inv X (pins++ex) σ H s:=by
 refine {I with pin:=fun p q=>?_}
 rcases Zaf.mp q with q |q
 ·exact I.pin p (wR _ q)
 ·rcases Zaf.mp q with q |q
  ·exact I.pin p (kf _ q)
  ·exact hp p q
theorem Hi{ex:List (Addr×Obj)}(I:Inv X (pins++ex) σ H s):Inv X pins σ H s∧∀p∈ex,sj X H s.heap p:=by
 refine⟨{I with pin:=fun p q=>I.pin p ?_},fun p q=>I.pin p (kf _ (kf _ q))⟩
 rcases Zaf.mp q with q |q
 ·exact wR _ q
 ·exact kf _ (wR _ q)
theorem AU{ex:List (Addr×Obj)}(I:Inv (hX X ea oe C ex) pins σ H s)(ok:X.Ok)(n:EaNew X ea):Inv X pins σ H s:=by
 have ne:∀b o,X.s₀.heap.get? b=some o→b≠ea:=fun b o e z=>by rw[z,n.s0]at e;cases e
 have dn:∀b u,X.H₀ b=u→b≠ea→(hX X ea oe C ex).H₀ b=u:=fun b u e z=>(aF z).trans e
 exact⟨ok,I.os,I.bare,⟨fun b o e h=>I.base.keep b o e (dn b _ h (ne b o e)),fun b o e h=>I.base.slot b o e (dn b _ h (ne b o e)),fun b o e h=>I.base.free b o e (dn b _ h (ne b o e)),I.base.there,fun b xs e=>I.base.tups b xs (dn b _ e fun z=>n.nt xs (z▸e)),fun b o u e=>I.base.frzs b o u (dn b _ e fun z=>n.nf o u (z▸e)),fun b q e=>I.base.tbls b q (dn b _ e fun z=>n.nb q (z▸e))⟩,I.loc,I.cell,I.free,I.freeC,fun p q=>I.pin p (by
  rcases Zaf.mp q with q |q
  ·exact wR _ (kf _ q)
  ·exact kf _ q),I.hok,I.len⟩
theorem yE{o:HO}(I:Inv X pins σ H s)(hn:H a=none)(h0:X.s₀.heap.get? a=none)(hL:X.env.locals≠a)(hc:∀x c,X.env.cells.lookup x=some c→c≠a)(hp:∀p∈X.pn++pins,p.1≠a)(ok:ObjOk X.prog X.w (upd H a o) s.heap a o):Inv X pins σ (upd H a o) s:=by
 have ne:∀b u,H b=some u→b≠a:=fun b u e=>bu e hn
 refine⟨I.ok,I.os,I.bare,⟨I.base.keep,I.base.slot,fun b u e n hx=>?_,I.base.there,fun b xs e=>?_,fun b u v e=>?_,fun b q e=>?_⟩,I.loc,I.cell,?_,fun x c e=>?_,fun p q=>?_,fun b u e=>?_,I.len⟩
 ·rw[aF (fun z=>by rw[z,h0]at e;cases e)];exact I.base.free b u e n hx
 ·have z:=I.base.tups b xs e
  rw[aF (ne _ _ z)];exact z
 ·have z:=I.base.frzs b u v e
  rw[aF (ne _ _ z)];exact z
 ·have z:=I.base.tbls b q e
  rw[aF (ne _ _ z)];exact z
 ·rw[aF hL];exact I.free
 ·rw[aF (hc x c e)];exact I.freeC x c e
 ·obtain⟨e1,e2,e3⟩:=I.pin p q
  exact⟨e1,by rw[aF (hp p q)];exact e2,e3⟩
 ·by_cases hb:b=a
  ·subst hb;rw[upd_same]at e;cases e;exact ok
  ·rw[aF hb]at e
   refine(I.hok b u e).stay (fun c w' _ q=>q) (fun c q=>?_) fun c xs q=>?_
   ·rw[aF (ne _ _ q)];exact q
   ·rw[aF (ne _ _ q)];exact q
theorem AV{M:Model}{A:Around}{E:Value→Shared→Prop}{i:Nat}{Q:Unit→Shared→Prop}(I:Inv X pins σ H s)(hN:X.N.Nodup)(hi:X.N[i]? =some x)(hk:X.env.scope.names.lookup x=some .local)
  (h:∀s',Inv X pins (σ.set i none) H s'→Q () s'):wpAny M A (do bindName X.env x .none;unbindBehindTheSuite X.env x pos) Q E s:=by
 obtain⟨m,hn,hl⟩:=id I.loc
 have hcls:(X.env.scope.kind ==.class||(X.env.scope.kind ==.module&&X.env.locals != X.env.globals))=false:=by rw[I.ok.kind];rfl
 have hiσ:i < σ.length:=by rw[I.len];exact(Zar.mp hi).1
 have cne:=I.cne
 refine wpAny_nameGoes_keeps hk hn hcls fun h' v hn' hs=>?_
 obtain⟨oL,_,_,hoL,_⟩:=id hn
 refine h _ ⟨I.ok,I.os,I.bare,⟨fun b o e n hb hx=>?_,fun b o e n hb hx=>?_,I.base.free,fun b o e hx=>?_,I.base.tups,I.base.frzs,I.base.tbls⟩,⟨_,hn',fun j y v' e1 e2 e3=>?_⟩,fun y c e=>?_,I.free,I.freeC,fun p hp=>?_,fun b ob e=>?_,by simpa using I.len⟩
 ·exact(hs.2 b (eU (kT (eI e) I.ok.above))).trans (I.base.keep b o e n hb hx)
 ·obtain⟨sl,e1⟩:=I.base.slot b o e n hb hx
  exact⟨sl,(hs.2 b (eU (kT (eI e) I.ok.above))).trans e1⟩
 ·obtain⟨o',e1⟩:=I.base.there b o e hx
  exact⟨o',(hs.2 b (eU (kT (eI e) I.ok.above))).trans e1⟩
 ·by_cases hj:j=i
  ·subst hj
   rw[List.getElem?_set_self hiσ]at e2
   cases e2
  ·rw[List.getElem?_set_ne (Ne.symm hj)]at e2
   obtain⟨u',r',q⟩:=hl j y v' e1 e2 e3
   refine⟨u',r',?_⟩
   rcases q with⟨k,e⟩ |⟨k,c,e,z⟩
   ·refine .inl ⟨k,?_⟩
    have:y≠x:=fun e=>hj (nu hN e1 (e▸hi))
    simp[this,e]
   ·exact .inr ⟨k,c,e,z.sameBut hs (cne y c e)⟩
 ·obtain⟨w',z⟩:=I.cell y c e
  exact⟨w',z.sameBut hs (cne y c e)⟩
 ·obtain⟨e,n,ne,nf,d⟩:=I.pin p hp
  exact⟨(hs.2 p.1 ne).trans e,n,ne,nf,d⟩
 ·refine(I.hok b ob e).stay (fun c w' hc q=>(hs.2 c ?_).trans q) (fun _ q=>q) fun _ _ q=>q
  rintro rfl
  rcases hc with rfl |hc
  ·rw[I.free]at e;cases e
  ·rw[I.free]at hc;cases hc
end
theorem ip:∀{ps:List (Addr×Obj)} {p:Addr×Obj},ChainP ps→p∈ps→∃ws,p.2.data=.fields ws∧∃v,ws[2]? =some v:=by
 intro ps
 induction ps with
 |nil=>intro p _ h;cases h
 |cons q ps ih=>
  intro p c h
  rcases Zai.mp h with z |z
  ·subst z
   obtain⟨ws,a,b⟩:=c.1
   exact⟨ws,a,_,b⟩
  ·exact ih c.2.2 z
abbrev FL(n:Str):PyData:=.dict [(.none,.str n)]
end PL
namespace PL
open PySem PySem.Spec PyProof.Rows L2 Nh
def XT(K:Frag)(c:Value)(tab:List (Str×Bool)):Prop:=∀n b C,tab.lookup n=some b→nsIn K mainGlobals n=some (some (.ref C))→ExCls K C∧kitOne K (.ref C) c=some b
theorem gm{K:Frag}{c:Value}:XT K c []:=fun _ _ _ e=>nomatch e
theorem aL{K:Frag}{c:Value}{n:Str}{b:Bool}{tab:List (Str×Bool)}(ns:nsIn K mainGlobals n=some (some (.ref C)))(Z:ExCls K C)(k:kitOne K (.ref C) c=some b)(h:XT K c tab):XT K c ((n,b)::tab):=fun n' b' C' e ns'=>by
 rw[List.lookup_cons]at e
 split at e
 ·rename_i q
  rw[beq_iff_eq]at q
  subst q
  rw[ns]at ns'
  cases ns'
  cases e
  exact⟨Z,k⟩
 ·exact h n' b' C' e ns'
def j8(tab:List (Str×Bool)):PyData→Option PyData
 |.dict [(.none,.str n)]=>(tab.lookup n).map .bool
 |_=>none
theorem FM{K:Frag}{n:Str}(r:Rp K H v (.dict [(.none,.str n)])):∃a C o,v=.ref a∧H a=some (.frz o (.ext (eV a C)))∧nsIn K mainGlobals n=some (some (.ref C)):=by
 generalize e:PyData.dict [(PyData.none,PyData.str n)]=d at r
 cases r with
 |exc h1 h2=>cases e;exact⟨_,_,_,rfl,h1,h2⟩
 |dct h1 h2=>
  cases h2 with
  |nil=>cases e
  | @cons k x us d kvs a b=>cases k <;> cases e
 |_=>cases e
section
variable {X:Cx} {e:Expr} {m1:Bool} {f:bj} {p p2 pos:Pos}
theorem yF{c:Value}{vc:V}{tab:List (Str×Bool)}(rc:∀u,RelV vc u→u=c)(T:XT X.K c tab):CallR X (.builtin "isinstance") (fun xs H Q=>∃x d r,xs=[x,vc]∧Rp X.K H x d∧j8 tab d=some r∧∀b,r=.bool b→Q (.bl b) H):=by
 intro pins s σ H xs us Q I r h
 obtain⟨x,d,r',rfl,rp,hd,q⟩:=h
 obtain⟨u,w',rfl,ru,rw'⟩:=r.two
 cases rc w' rw'
 unfold j8 at hd
 split at hd
 ·rename_i n
  obtain⟨b,eb,z⟩:=Zab.mp hd
  obtain⟨a,C,oz,rfl,ha,ns⟩:=FM rp
  obtain⟨Z,k⟩:=T n b C eb ns
  cases(show u=Value.ref a from ru)
  exact kia_one (AM Z) I.kIn (show eV a C s.heap from(I.hok a _ ha).2.1) k (fun z=>nomatch z) fun tk=>⟨.bl b,H,I.tok _,rfl,q b z.symm⟩
 ·cases hd
theorem wq{c:Value} {vc:V} {tab:List (Str×Bool)} (rc:∀u,RelV vc u→u=c) (T:XT X.K c tab) (hg:Gl X "isinstance") (hm:X.mg "isinstance"=none) (ha:EX X e m1 f)  (h2:PE X (.Name x p2) (tC vc))
  (he:starEach [e,.Name x p2] X.env=(false,eval e X.env)::starEach [.Name x p2] X.env) (he2:starEach [.Name x p2] X.env=[(false,eval (.Name x p2) X.env)]) (hpl:(backTo pos (starEach [.Name x p2] X.env)).any (·.1)=false):
  EX X (.Call (.Name "isinstance" p) [e,.Name x p2] [] pos) m1 (iR (j8 tab) f):=by
 refine bv (gX (yF rc T) hg hm PyProof.Rows.boot_isinstance (cP ha (cP h2 eJ he2) he) (by decide) (by decide) he hpl) fun σ H Q z=>?_
 obtain⟨B,E,xs,Xs,res,E',fr,cl,e,q⟩:=z
 obtain⟨⟨s,E1⟩,e1,e⟩:=Za.mp e
 obtain⟨d1,e2,e⟩:=Za.mp e
 obtain⟨d2,e3,e⟩:=Zab.mp e
 cases e
 refine⟨B,E,xs,Xs,s,E1,fr,cl,e1,fun v1 H1 ⟨F,A,fr1⟩=>?_⟩
 obtain⟨A',fr2⟩:=fr1.pop
 exact⟨v1,d1,d2,rfl,(fr1.look0 e2).1,e3,fun b z=>q _ _ ⟨F,A',fr2.push ⟨rfl,_,rfl,z▸ .bl b⟩⟩⟩
theorem fj{tab:List (Str×Bool)} (hg:Gl X "isinstance") (hm:X.mg "isinstance"=none) (ha:EX X e m1 f)  (hgx:Gl X x) (hmx:X.mg x=some (.ref C)) (T:XT X.K (.ref C) tab) (hdx:(x == ("__debug__":Str))=false:=by decide)
  (he:starEach [e,.Name x p2] X.env=(false,eval e X.env)::starEach [.Name x p2] X.env:=by rfl) (he2:starEach [.Name x p2] X.env=[(false,eval (.Name x p2) X.env)]:=by rfl) (hpl:(backTo pos (starEach [.Name x p2] X.env)).any (·.1)=false:=by rfl):
  EX X (.Call (.Name "isinstance" p) [e,.Name x p2] [] pos) m1 (iR (j8 tab) f):=wq (vc:=.ref C) (fun _ z=>z) T hg hm ha (qa (v:=.ref C) hgx hmx rfl hdx) he he2 hpl
theorem CT{t:String} {tab:List (Str×Bool)} (hg:Gl X "isinstance") (hm:X.mg "isinstance"=none) (ha:EX X e m1 f)  (hgx:Gl X x) (hmx:X.mg x=none) (hbx:bootBuiltins x=some (.type t)) (T:XT X.K (.type t) tab) (hnx:x≠"__name__":=by decide) (hdx:(x == ("__debug__":Str))=false:=by decide)
  (he:starEach [e,.Name x p2] X.env=(false,eval e X.env)::starEach [.Name x p2] X.env:=by rfl) (he2:starEach [.Name x p2] X.env=[(false,eval (.Name x p2) X.env)]:=by rfl) (hpl:(backTo pos (starEach [.Name x p2] X.env)).any (·.1)=false:=by rfl):
  EX X (.Call (.Name "isinstance" p) [e,.Name x p2] [] pos) m1 (iR (j8 tab) f):=wq (vc:=.ty t) (fun _ z=>z) T hg hm ha (vM (v:=.ty t) hgx hmx hbx rfl hnx hdx) he he2 hpl
end
structure RoomH (k:Nat) (A:Around):Prop where
 dp:A.depth+3*k+5 < recursionLimit
 un:A.units+16*k+200 < cLine
theorem RoomH.mono{A:Around}(r:RoomH k A)(h:j≤k):RoomH j A:=⟨by have:=r.dp;omega,by have:=r.un;omega⟩
theorem RoomH.deeper{A:Around}(r:RoomH (k+1) A)(env:Env):RoomH k (A.deeper env):=
 ⟨by have:=r.dp;show A.depth+1+3*k+5 < _;omega,by have:=r.un;show A.units+3+16*k+200 < _;omega⟩
theorem RoomH.depth{A:Around}(r:RoomH k A):A.depth < recursionLimit:=by have:=r.dp;omega
theorem RoomH.units{A:Around}(r:RoomH k A):A.units+64 < cLine:=by have:=r.un;omega
theorem Room.mark{A:Around}(r:Room k A)(v:Option Value):RoomH k (A.mark v):=⟨r.dp,r.un⟩
abbrev Ie(P:Program)(w:World)(K:Frag)(mg:Str→Option Value)(base:Heap)(N:List Str)(qual:Str)(scope:Scope)(f:Addr)(cd:Value)(A:Around)(outer:List Env)(s:Shared)(H:Hp)(E:XK):Cx:={gf nz P w K mg base N qual scope f cd A outer s H E with calm:=false,xe:=fun _ _=>False}
structure FnOkH (P:Program) (w:World) (K:Frag) (mg:Str→Option Value) (base:Heap) (k:Nat) (f:Addr) (fd:FuncData) (ps:List Str) (sp:Sp):Prop where
 len:∀vs H Q E,sp vs H Q E→vs.length=ps.length
 run:∀(A:Around) (outer:List Env) (s:Shared) (H:Hp) (args:Args) (us:List Value) (vs:List V) (Q:VK) (E:XK),RoomH k A→Env0 P w K mg base A outer s H→BindsTo s fd args (ps.zip us)→Vals vs us→sp vs H Q E→
  codeAny (model P w) A (.call (.ref f) args) (CR nz outer P w H s Q E) s
structure OwnH (P:Program) (w:World) (K:Frag) (mg:Str→Option Value) (base:Heap) (k:Nat) (x:Str) (ps:List Str) (sp:Sp):Prop where
 ex:∃(f:Addr) (fd:FuncData),FnOkH P w K mg base k f fd ps sp∧Binds K fd ps []∧mg x=some (.ref f)∧keepIn K (.ref f)=true
theorem FN{w:World}{K:Frag}{mg:Str→Option Value}{base:Heap}{f:Addr}{name:Str}{kV ct:Value}{od:Option Addr}
   {N:List Str}  (lk:K.lookup f=some ⟨oc,od,.func (fnOf name qual params body scope dV kV doc pm an cdv ct),osl⟩) (hcd:codeIn K cdv qual=true) (S:FnScope N ps scope)
  (len:∀vs H Q E,sp vs H Q E→vs.length=ps.length)
  (hbody:∀(A:Around) (outer:List Env) (s:Shared) (H:Hp) (vs:List V) (Q:VK) (E:XK),RoomH k (A.deeper (envOfC qual scope s.heap.objs.size f cdv))→sp vs H Q E→
   ∃t,PSs (Ie P w K mg base N qual scope f cdv A outer s H E) body t∧t {nx:=fun _ H'=>Q .non H',rt:=Q} (dE N vs) H):
  FnOkH P w K mg base (k+1) f (fnOf name qual params body scope dV kV doc pm an cdv ct) ps sp:=by
 refine⟨len,fun A outer s H args us vs Q E hr e0 hb r hsp=>?_⟩
 have hl:=len _ _ _ _ hsp
 have KX:K.In s.heap:=e0.mod.kin.keeps fun b o e=>(e0.bs b o e).1
 have lim:s.heap.NoLimit:=e0.mod.nolimit.keeps fun b o e=>(e0.bs b o e).1
 have hkind:∀y∈ps.zip us,scope.names.lookup y.1=some .local∨(scope.names.lookup y.1=some .cell∧((cellsFrom (s.heap.objs.size+1) scope.names []).lookup y.1).isSome=true):=fun⟨n,v⟩ hy=>by
  rcases S.par n (List.of_mem_zip hy).1 with q |q
  ·exact .inl q
  ·exact .inr ⟨q,cellsFrom_some _ _ _ (.inl q)⟩
 refine codeAny_call_function hr.depth (KX _ _ lk) rfl S.co S.gen rfl (codeRec_of KX hcd) (hb _ _ _ _ ?_)
 refine wpAny_newFunctionEnv_cells S.kind hkind fun env he s1 x=>?_
 subst he
 refine⟨lim.keeps x.toInCall.keep,codeAny_func ?_⟩
 obtain⟨t,ht,hq⟩:=hbody A outer s H vs Q E (hr.deeper _) hsp
 have I0:Inv (gf nz P w K mg base N qual scope f cdv {A with handled:=none} outer s H E) [] (dE N vs) H s1:=lP S rfl ⟨e0.frames,e0.mod,e0.bs,e0.bsz,e0.funs,e0.frf,e0.hok,e0.bare,e0.tab⟩ hl r x
 have I:Inv (Ie P w K mg base N qual scope f cdv A outer s H E) [] (dE N vs) H s1:=
  let ok:=I0.ok
  ⟨⟨ok.mod,ok.kind,ok.glob,ok.blt,ok.above,ok.inj,ok.has,ok.cab,fun z=>(nomatch z),Around.frames_deeper e0.frames,ok.stk,ok.exf,ok.bs,ok.bsz,ok.noex,ok.exfs,ok.funs,ok.frf,ok.tab⟩,I0.os,I0.bare,I0.base,I0.loc,I0.cell,I0.free,I0.freeC,I0.pin,I0.hok,I0.len⟩
 refine zz2 (ht [] s1 (dE N vs) H _ I hq) (fun fl s' hs=>?_) fun e s' hs=>hs.elim
 have fin:∀{σ':L2.St} {H':Hp} {v:V} {u:Value},Inv (Ie P w K mg base N qual scope f cdv A outer s H E) [] σ' H' s'→RelV v u→Q v H'→CE outer P w H s Q u s':=
  fun {σ' H' v u} J rv q=>⟨v,H',J.os,J.bare,J.base,J.hok,rv,q⟩
 cases fl with
 |ret u=>
  obtain⟨v,σ',H',J,rv,q⟩:=hs
  exact fin J rv q
 |next=>
  obtain⟨σ',H',J,q⟩:=hs
  exact fin (v:=V.non) (u:=Value.none) J rfl q
 |brk=>
  obtain⟨_,_,_,q⟩:=hs
  exact False.elim q
 |cont=>
  obtain⟨_,_,_,q⟩:=hs
  exact False.elim q
theorem IQ{w:World}{K:Frag}{mg:Str→Option Value}{base:Heap}{N:List Str}{a:Nat}{g:cZ}(D:Def K mg x st ps)(S:FnScope N ps (ai st))(hpa:ps.length=a)(hNn:N.length=n)(hps:a≤n)
  (hbody:∀(f:Addr) (cdv:Value) (A:Around) (outer:List Env) (s:Shared) (H:Hp) (E:XK),RoomH k (A.deeper (PyProof.Rows.envOfC x (ai st) s.heap.objs.size f cdv))→
   q_ (Ie P w K mg base N x (ai st) f cdv A outer s H E) (a6 st) g):OwnH P w K mg base (k+1) x ps (gY K (gB a n g)):=by
 subst hpa hNn
 obtain⟨f,fd,F,mx,b⟩:=D.ex
 have kp:=F.kp
 obtain⟨oc,od,kV,doc,pm,an,cdv,ct,osl,rfl,lk,hcd⟩:=F.ex
 refine⟨f,_,FN lk hcd S (fun vs H Q E h=>?_) fun A outer s H vs Q E hr h=>?_,b,mx,kp⟩
 ·obtain⟨ds,r,e,rp,_⟩:=h
  unfold gB at e
  split at e
  ·rename_i hl
   rw[rp.len];exact hl
  ·cases e
 obtain⟨ds,r,e,rp,q⟩:=h
 unfold gB at e
 split at e
 ·rename_i hl
  refine⟨_,hbody f cdv A outer s H E hr,?_⟩
  obtain⟨⟨E',fl⟩,e1,e⟩:=Za.mp e
  refine⟨H,cI N.length ds,[],[],E',fl,⟨H,[],jR rp (by omega)⟩,rfl,e1,?_⟩
  cases fl with
  |nx=>
   cases e
   rintro σ' H' ⟨F',A',fr'⟩
   exact q _ _ (fr'.bf.trans fr'.fh) .non
  |bk=>cases e
  |ct=>cases e
  |rt r'=>
   rintro σ' v H' ⟨F',A',fr'⟩
   obtain⟨s1,s2⟩:=fr'.resultO e
   exact q v H' s1 s2
 ·cases e
theorem CU{c:List PyData→Option Sl}{es:List Expr}{g:lM}(D:OwnH X.prog X.w X.K X.mg X.base k x ps (gY X.K c))(hr:RoomH k X.A)(hg:Gl X x)(ha:AX X (e::es) m g)
  (hdb:(x == ("__debug__":Str))=false:=by decide) (he:starEach (e::es) X.env=(false,eval e X.env)::starEach es X.env:=by rfl) (hpl:(backTo pos (starEach es X.env)).any (·.1)=false:=by rfl):
  EX X (.Call (.Name x p) (e::es) [] pos) m (aj c g):=by
 obtain⟨f,fd,F,b,mx,kp⟩:=D.ex
 have hc:PE X (.Call (.Name x p) (e::es) [] pos) (zS (gY X.K c) [] E0 (ra X.K m g)):=by
  intro pins s σ H Q I h
  refine zz6 (fi I hg mx ?_ hdb)
  refine callWith_K (h₀:=X.base) I.ok.mod.kin kp (ce (ha pos pins s σ H _ I h) fun us s1 ⟨vs,H1,I1,r,q⟩=>⟨I1.kIn,?_⟩) he hpl
  have q:gY X.K c (vs++[]) H1 Q E0:=q
  rw[tL]at q
  have hlen:(us++[]).length=ps.length:=by rw[tL,←r.length];exact F.len _ _ _ _ q
  have bd:=b s1 us I1.kIn hlen
  rw[tL]at bd
  refine wpAny_call (codeAny_mono (F.run X.A X.stack s1 H1 ⟨us,[]⟩ us vs Q E0 hr I1.env0 bd r q) fun rr s' hq=>?_)
  cases rr with
  |error e=>exact False.elim hq
  |ok fl=>
   cases fl with
   |ret u=>exact I1.after hq
   |next=>exact False.elim hq
   |brk=>exact False.elim hq
   |cont=>exact False.elim hq
 refine bv hc fun σ H Q z=>?_
 obtain⟨B,E,xs,Xs,res,E',fr,cl,e,q⟩:=z
 obtain⟨⟨rs,E1⟩,e1,e⟩:=Za.mp e
 obtain⟨ds,e2,e⟩:=Za.mp e
 obtain⟨r,e3,e⟩:=Zab.mp e
 cases e
 refine⟨B,E,xs,Xs,rs,E1,fr,cl,e1,fun vs H1 hl ⟨F,A,fr1⟩=>?_⟩
 obtain⟨r1,A',fr2⟩:=fr1.looks hl e2
 exact⟨ds,res,e3,by rw[tL];exact r1,fun v H' g q'=>q v H' (fr2.told g q')⟩
end PL
namespace PL
open PySem PySem.Spec PyProof.Rows L2 Nh
section
variable {M:Model} {A:Around} {E:Value→Shared→Prop} {s:Shared}
theorem sm{base:Heap}{env:Env}{outer:List Env}{e:Addr}{cls:Value}{Q:Unit→Shared→Prop}
  (hfr:A.frames=some (env::outer)) (hf:env.frame=some L) (hkb:base.StaysIn h) (hl:h.FunFrames base (env::outer)) (hx:Heap.MadeExcOf h s.heap e cls args)
  (hQ:∀h' t,Heap.HeldW base (env::outer) e cls (.ref t) L h'→s.heap.UpToSlots h'→Q () {s with heap:=h'}):wpAny M A (noteFrame (.ref e) env) Q E s:=by
 obtain⟨t,he,htn,ht⟩:=hx.there
 have hen:base.get? e=none:=by
  cases hq:base.get? e with
  |none=>rfl
  |some o'=>have:=hkb e o' hq;rw[hx.new]at this;cases this
 have h1:(#[Value.ref t,.none,.none,.none,.bool false,.none]:Array Value)[1]? =some Value.none:=rfl
 unfold noteFrame
 simp only[hf]
 refine zz0 (wpAny_field he rfl h1 ?_)
 rw[if_neg (show ¬((Value.none != Value.none)=true)from by decide)]
 exact wpAny_entryW (a0:=.ref t) hfr (hl.of_keeps fun b o hb _=>⟨o,hx.keeps b o hb,rfl⟩) hf he (fun b o hb=>hx.keeps b o (hkb b o hb)) hen rfl (by simp) rfl fun h' ⟨x1,x2,x3,x4⟩=>hQ h' t ⟨x1,hen,x2,x3⟩ x4
theorem uO{base:Heap}{env:Env}{outer:List Env}{e:Addr}{cls:Value}{Q:Unit→Shared→Prop}
  (hfr:A.frames=some (env::outer)) (hf:env.frame=some L) (hkb:base.StaysIn h) (hl:h.FunFrames base (env::outer)) (hx:Heap.MadeExcOf h s.heap e cls args)
  (hQ:∀h' t,HeldC Hf base (env::outer) e cls (.ref t) L h'→s.heap.UpToSlots h'→Q () {s with heap:=h'}):wpAny M A (noteFrame (.ref e) env) Q E s:=
 oa (P:=fun h'=>∃t,Heap.HeldW base (env::outer) e cls (.ref t) L h'∧s.heap.UpToSlots h') (m8 _ _) (r_ hx) (fun k=>sm hfr hf hkb hl hx fun h' t a b=>k h' ⟨t,a,b⟩) fun h' ⟨t,a,b⟩ z=>hQ h' t (.of a z) b
theorem pQ{base:Heap}{env:Env}{l:List Env}{e:Addr}{cls:Value}(hf:env.frame=some L)(hh:HeldC Hf base l e cls a0 L s.heap)
  (hE:∀h',HeldC Hf base l e cls a0 L h'→s.heap.UpToSlots h'→E (.ref e) {s with heap:=h'}):cameBackBy M A env E (.ref e) s:=by
 obtain⟨hkb,hen,hl,⟨oe,vs,T,oT,ts,he,hcls,hd,h1,hnT,hTe,hT,hdT,h3⟩,c0⟩:=hh
 have hsz3:3 < ts.size:=(Array.getElem?_eq_some_iff.mp h3).1
 have other:∀b,b≠T→(s.heap.update T (Obj.mapFields (·.setIfInBounds 3 ((some L).elim Value.none fun f=>rawInt f)))).get? b=s.heap.get? b:=
  fun b hb=>zF _ _ (Ne.symm hb)
 have noRecord:∀b o,s.heap.get? b=some o→(∀vs,o.data≠ .fields vs)→b≠T:=fun b o hb hnf q=>by
  rw[q,hT]at hb;injection hb with hb;subst hb;exact hnf ts hdT
 unfold cameBackBy
 refine zz0 (wpAny_field he hd h1 ?_)
 rw[if_neg (show ¬((Value.ref T == Value.none)=true)from by simp)]
 rw[hf]
 unfold setFlight
 refine zz0 (wpAny_field he hd h1 ?_)
 rw[if_pos (show(Value.ref T != Value.none)=true from by simp)]
 refine wpAny_setField hT hdT hsz3 (hE _ ⟨fun b o hbo=>(other b fun q=>by rw[q,hnT]at hbo;cases hbo).trans (hkb b o hbo),hen,
  hl.of_keeps fun b o hb hnf=>⟨o,(other b (noRecord b o hb hnf)).trans hb,rfl⟩,?_⟩ fun b o hb hnf=>⟨o.slots,(other b (noRecord b o hb hnf)).trans hb⟩)
 exact⟨⟨oe,vs,T,_,_,(other e (Ne.symm hTe)).trans he,hcls,hd,h1,hnT,hTe,Heap.get?_update_self _ hT (Obj.isFreed_of_fields (Obj.data_mapFields hdT _)),Obj.data_mapFields hdT _,by simp[hsz3]⟩,CtxN.upd c0 (uJ (by decide))⟩
end
def jd(g:gA)(b:cZ)(r:fI):List PyData→fI
 |[]=>fun _=>none
 |d::ds=>fun E=>(g d E).bind fun E1=>match r E1 with
  |some x=>some x
  |none=>match b E1 with
   |some (E2,.nx)=>jd g b r ds E2
   |some (E2,.ct)=>jd g b r ds E2
   |_=>none
def Hj(it:jP)(g:gA)(b:cZ)(r:fI):fI:=fun E=>(it E).bind fun a=>jd g b r a.1 a.2
def AW(X:Cx)(mk:Bool)(n:Str)(B:Hp)(E':List Sl)(e:Value)(s':Shared):Prop:=∃pins σ C H' ea,e=.ref ea∧nsIn X.K mainGlobals n=some (some (.ref C))∧Frm X.K B σ H' E' [] []∧
 ((mk=true∧∃s h' vs,Inv X pins σ H' s∧Heap.MadeExcOf s.heap h' ea (.ref C) vs∧s'={s with heap:=h'})∨
  (∃H s a0 Bb,Inv X pins σ H s∧s'.os=s.os∧AllBare s'.gens∧FlyC H' Bb X.stack ea (.ref C) a0 s'.heap∧HOk X.prog X.w H' Bb∧UnB (gb X.stack) H H' s.heap Bb s'.heap)∨
  (∃H s a0 Bb,Inv X pins σ H s∧s'.os=s.os∧AllBare s'.gens∧HeldC H' Bb X.stack ea (.ref C) a0 X.env.locals s'.heap∧HOk X.prog X.w H' Bb∧UnB (gb X.stack) H H' s.heap Bb s'.heap))
theorem AY{n:Str}{B:Hp}(hst:X.stack=X.env::X.outer)(hfr:X.env.frame=some X.env.locals):PassesOwn (model X.prog X.w) X.A X.env (AW X mk n B E'):=by
 intro e s' h
 obtain⟨pins,σ,C,H',ea,rfl,ns,fr,h⟩:=h
 have came:∀(s1:Shared) (H:Hp) (s:Shared) (a0:Value) (Bb:Heap),Inv X pins σ H s→s1.os=s.os→AllBare s1.gens→HeldC H' Bb X.stack ea (.ref C) a0 X.env.locals s1.heap→HOk X.prog X.w H' Bb→UnB (gb X.stack) H H' s.heap Bb s1.heap→cameBackBy (model X.prog X.w) X.A X.env (AW X mk n B E') (.ref ea) s1:=fun s1 H s a0 Bb I os bare hh hok u=>
  pQ hfr hh fun h2 x1 x2=>⟨pins,σ,C,H',ea,rfl,ns,fr,.inr (.inr ⟨H,s,a0,Bb,I,os,bare,x1,hok,u.on hh.2.2.1 x2⟩)⟩
 show wpAny _ _ (noteFrame _ _) _ _ _
 rcases h with⟨hm,s,h',vs,I,hx,rfl⟩ |⟨H,s,a0,Bb,I,os,bare,fl,hok,u⟩ |⟨H,s,a0,Bb,I,os,bare,hh,hok,u⟩
 ·have st:=I.stack
  have hin:∀env∈X.stack,∀b,env.frame=some b→b∈gb X.stack:=fun env he b hb=>List.mem_filterMap.mpr ⟨env,he,hb⟩
  have ff:=funFrames_hide st hin
  refine uO (Hf:=H') (base:=hideAll s.heap (gb X.stack)) (h:=s.heap) (outer:=X.outer) (by rw[I.ok.frames,hst]) hfr (fun b o q=>of_hideAll _ q) (hst▸ff) hx fun h2 t x1 x2=>?_
  refine came {s with heap:=h2} H' s (.ref t) _ I rfl I.bare (hst▸x1) (fun a o e=>?_) ⟨fun b o e n hb=>hideAll_get _ e hb,fun b o e n hb=>?_,fun _ _ _ n=>n,fun b o e hb=>⟨o,hideAll_get _ e hb⟩,fun _ _ e=>e,fun _ _ _ e=>e,fun _ _ e=>e⟩
  ·refine(I.hok a o e).stay (fun b u hb q=>hideAll_get _ q fun z=>?_) (fun _ q=>q) fun _ _ q=>q
   have n:=I.stkFree b z
   rcases hb with rfl |hb
   ·rw[n]at e;cases e
   ·rw[n]at hb;cases hb
  ·obtain⟨_,o',ho',hd⟩:=st.mem hb
   rw[e]at ho'
   cases ho'
   exact x2 b o (hx.keeps b o e) hd
 ·refine jW (outer:=X.outer) (by rw[I.ok.frames,hst]) hfr (hst▸fl) fun h2 x1 x2=>?_
  exact came {s' with heap:=h2} H s a0 Bb I os bare (hst▸x1) hok (u.on fl.2.2.1 x2)
 ·exact wpAny_noteFrame_againW hfr hh.2.2.2.1 (came s' H s a0 Bb I os bare hh hok u)
theorem FO{tg:Expr}{g:gA}{b:cZ}{r:fI}(hst:X.stack=X.env::X.outer)(hfr:X.env.frame=some X.env.locals)(hc:X.calm=true)(hi:∀W,IX (X.wish W) tg iter m it)(hg:∀W,GX (X.wish W) tg g)(hb:q_ X.nox body b)(hr:∀W,BY (X.wish W) mk true body r)
  (hs:∀x,foldedSetIterable iter X.env x=pure x:=by intro _;rfl):RX X mk true (.For tg iter body [] pos) (Hj it g b r):=fun pins s σ H B E n E' I fr e k=>by
 obtain⟨⟨ds,E1⟩,e1,e⟩:=Za.mp e
 have hbW:PSs (X.wish (AW X mk n B E')) body (rs X.K b):=fun pins s σ H D I hw=>
  zz2 (hb pins s σ H D (I.unwish.wish _) hw) (fun _ _ q=>SP.unwish (X:=X) q |> fun z=>by
   rename_i f s'
   cases f with
   |next=>obtain⟨σ',H',I,q⟩:=z;exact⟨σ',H',I.wish _,q⟩
   |brk=>obtain⟨σ',H',I,q⟩:=z;exact⟨σ',H',I.wish _,q⟩
   |cont=>obtain⟨σ',H',I,q⟩:=z;exact⟨σ',H',I.wish _,q⟩
   |ret u=>obtain⟨v,σ',H',I,r,q⟩:=z;exact⟨v,σ',H',I.wish _,r,q⟩) fun _ _ z=>z.elim
 have hbody:PSs (X.wish (AW X mk n B E')) body (fun D σ H=>rs X.K b D σ H∨∃B' Ei,Same B B'∧Frm X.K B' σ H Ei [] []∧r Ei=some (n,E')):=fun pins s σ H D I hw=>by
  rcases hw with hw |⟨B',Ei,sb,fri,er⟩
  ·exact hbW pins s σ H D I hw
  ·refine zz2 (hr _ pins s σ H B' Ei n E' I fri er fun pp _ σ' C H' ns fr'=>⟨fun hm=>?_,?_,fun _=>?_⟩) (fun _ _ z=>z.elim) fun _ _ z=>z
   ·exact fun s h' ea vs I hx=>⟨pp,σ',C,H',ea,rfl,ns,fr'.base sb,.inl ⟨hm,s,h',vs,I.unwish,hx,rfl⟩⟩
   ·exact fun H s ea s' a0 Bb I os bare fl hok u=>⟨pp,σ',C,H',ea,rfl,ns,fr'.base sb,.inr (.inl ⟨H,s,a0,Bb,I.unwish,os,bare,fl,hok,u⟩)⟩
   ·exact fun H s ea s' a0 Bb I os bare fl hok u=>⟨pp,σ',C,H',ea,rfl,ns,fr'.base sb,.inr (.inr ⟨H,s,a0,Bb,I.unwish,os,bare,fl,hok,u⟩)⟩
 have q:=zK (X:=X.wish (AW X mk n B E')) (pos:=pos) (AY hst hfr) hc (hi _) (hg _) hbody hs pins s σ H {nx:=fun _ _=>False,bk:=fun _ _=>False,ct:=fun _ _=>False,rt:=fun _ _=>False} (I.wish _) (by
  refine⟨B,E,[],[],ds,E1,fr,fun _=>Calm.nil rfl,e1,fun B' J H1 hB fr1 ok=>?_⟩
  refine⟨fun i mm σ' H'=>mm=ds.length - i∧i≤ds.length∧∃Ei,jd g b r (ds.drop i) Ei=some (n,E')∧Frm X.K B' σ' H' Ei [] [],⟨ds.length,by simp,zz9 _,E1,by simpa using e,fr1⟩,?_⟩
  rintro i mm σ' H' ⟨rfl,hi,Ei,ei,F,A,fri⟩
  obtain⟨go,stop⟩:=ok i (Same.refl _) fri
  by_cases hlt:i < ds.length
  ·obtain⟨d,ed⟩:∃d,ds[i]? =some d:=⟨ds[i],oU hlt⟩
   obtain⟨g1,yl⟩:=go d ed
   have edr:ds.drop i=d::ds.drop (i+1):=by
    rw[List.drop_eq_getElem_cons hlt]
    congr 1
    exact Option.some.inj ((oU hlt).symm.trans ed)
   rw[edr]at ei
   obtain⟨E3,e3,ei⟩:=Za.mp ei
   refine .inr ⟨g1,fun σ2 H2=>∃Ej,jd g b r (ds.drop (i+1)) Ej=some (n,E')∧Frm X.K B' σ2 H2 Ej [] [],fun σ2 H2 ⟨Ej,ej,frj⟩=>⟨ds.length - (i+1),by omega,rfl,hlt,Ej,ej,frj⟩,fun x H2 y=>?_⟩
   refine⟨B',Ei,[],[],d,E3,yl x H2 y,Still.nil rfl,e3,fun σ3 H3 fr3=>?_⟩
   split at ei
   ·rename_i x er
    cases ei
    exact .inr ⟨B',E3,hB,fr3,er⟩
   ·split at ei
    ·rename_i E2 eb
     exact .inl ⟨B',E3,[],[],E2,.nx,fr3,rfl,eb,fun σ4 H4 fr4=>⟨E2,ei,fr4⟩⟩
    ·rename_i E2 eb
     exact .inl ⟨B',E3,[],[],E2,.ct,fr3,rfl,eb,fun σ4 H4 fr4=>⟨E2,ei,fr4⟩⟩
    ·cases ei
  ·have e0:i=ds.length:=by omega
   rw[e0,List.drop_length]at ei
   cases ei)
 refine zz2 q (fun f s1 z=>?_) fun e1 s1 z=>?_
 ·cases f with
  |next=>obtain⟨_,_,_,z⟩:=z;exact z
  |brk=>obtain⟨_,_,_,z⟩:=z;exact z
  |cont=>obtain⟨_,_,_,z⟩:=z;exact z
  |ret u=>obtain⟨_,_,_,_,_,z⟩:=z;exact z
 ·obtain⟨pp,σ',C,H',ea,rfl,ns,fr',z⟩:=z
  obtain⟨k1,k2,k3⟩:=k pp (fun h=>nomatch h) σ' C H' ns fr'
  rcases z with⟨hm,s2,h2,vs,I2,hx,rfl⟩ |⟨H2,s2,a0,Bb,I2,os,bare,fl,hok,u⟩ |⟨H2,s2,a0,Bb,I2,os,bare,fl,hok,u⟩
  ·exact k1 hm s2 h2 ea vs I2 hx
  ·exact k2 H2 s2 ea s1 a0 Bb I2 os bare fl hok u
  ·exact k3 rfl H2 s2 ea s1 a0 Bb I2 os bare fl hok u
end PL
namespace PL
open PySem PySem.Spec PyProof.Rows L2 Nh
theorem oZ:entryFor table "proto.unchain"=some Builtin.«proto.unchain»:=entryFor_of_fast (by kernel_rfl)
section
variable {prog:Program} {w:World} {A:Around} {E:Value→Shared→Prop} {s:Shared}
theorem sq{id:String}{args:Args}{b:Builtin}{R:Result→Shared→Prop}(hb:entryFor table id=some b)
  (h:wpAny (model prog w) (A.under (.builtin id args)) (b args) (fun fin s'=>match fin with |.done f=>R (.ok f) s' |.again c'=>c'.quiet=true∧codeAny (model prog w) A c' R s') (fun e s'=>R (.error e) s') s):codeAny (model prog w) A (.builtin id args) R s:=by
 refine codeAny_of_tree ?_
 show wpAny _ _ (match entryFor table id with |some b=>b args |none=>unsupported ((withoutEnding? id "#data").getD id)) _ _ s
 rw[hb]
 exact h
def Hk(h:Heap)(p:Addr×Obj)(v:Value):Prop:=h.get? p.1=some p.2∧∃ws,p.2.data=.fields ws∧ws[2]? =some v
theorem ChainP.node(L:List (Addr×Obj)):∀(k:Nat) (p:Addr×Obj),ChainP L→(∀q∈L,h.get? q.1=some q.2)→L[k]? =some p→Hk h p (wo (L.drop (k+1))):=by
 induction L with
 |nil=>intro k p _ _ e;rw[List.getElem?_nil]at e;cases e
 |cons q L ih=>
  intro k p c g e
  cases k with
  |zero=>
   rw[List.getElem?_cons_zero]at e
   injection e with e
   subst e
   exact⟨g q (jJ ..),c.1⟩
  |succ k=>
   rw[List.getElem?_cons_succ]at e
   exact ih k p c.2.2 (fun r hr=>g r (gW _ hr)) e
theorem ChainP.apart(L:List (Addr×Obj)):∀(i j:Nat) (p q:Addr×Obj),ChainP L→i < j→L[i]? =some p→L[j]? =some q→q.1≠p.1:=by
 induction L with
 |nil=>intro i j p q _ _ e;rw[List.getElem?_nil]at e;cases e
 |cons r L ih=>
  intro i j p q c l e1 e2
  cases j with
  |zero=>omega
  |succ j=>
   rw[List.getElem?_cons_succ]at e2
   cases i with
   |zero=>
    rw[List.getElem?_cons_zero]at e1
    injection e1 with e1
    subst e1
    exact c.2.1 q (List.mem_of_getElem? e2)
   |succ i=>
    rw[List.getElem?_cons_succ]at e1
    exact ih i j p q c.2.2 (by omega) e1 e2
theorem qD{L:List (Addr×Obj)}{e:Value}{R:Result→Shared→Prop}(c:ChainP L)(g:∀q∈L,s.heap.get? q.1=some q.2)(hne:∀q∈L,Value.ref q.1≠e)(hR:R (.ok (.ret .none)) s):
  ∀(n i j:Nat) (t:Bool) (o sl:Addr×Obj),L.length=i+n→L[i]? =some o→L[j]? =some sl→j≤i→(t=true→j < i)→codeAny (model prog w) A (.builtin "proto.unchain" ⟨[e,.ref o.1,.ref sl.1,.bool t],[]⟩) R s:=by
 intro n
 induction n with
 |zero=>
  intro i j t o sl hl ho _ _ _
  rw[List.getElem?_eq_none (by omega)]at ho
  cases ho
 |succ n ih=>
  intro i j t o sl hl ho hs ji ht
  obtain⟨g1,ws,hd,h2⟩:=ChainP.node L i o c g ho
  refine sq oZ ?_
  show wpAny _ _ (field (.ref o.1) 2 >>= _) _ _ s
  cases eq:L[i+1]? with
  |none=>
   have:L.drop (i+1)=[]:=List.drop_eq_nil_of_le (List.getElem?_eq_none_iff.mp eq)
   rw[this]at h2
   exact zz0 (wpAny_field g1 hd h2 (zz1 hR))
  |some q=>
   have hd':L.drop (i+1)=q::L.drop (i+1+1):=by
    have hlt:=(Zar.mp eq).1
    rw[List.drop_eq_getElem_cons hlt]
    congr 1
    exact(Zar.mp eq).2
   rw[hd']at h2
   have h2:ws[2]? =some (.ref q.1):=h2
   refine zz0 (wpAny_field g1 hd h2 ?_)
   have n1:((Value.ref q.1 == Value.none)=false):=rfl
   have n2:(Value.ref q.1 == e)=false:=beq_eq_false_iff_ne.mpr (hne q (List.mem_of_getElem? eq))
   have n3:(Value.ref q.1 == Value.ref sl.1)=false:=beq_eq_false_iff_ne.mpr fun z=>ChainP.apart L j (i+1) sl q c (Nat.lt_succ_of_le ji) hs eq (Value.ref.inj z)
   show wpAny _ _ (if (Value.ref q.1 == Value.none)=true then _ else _) _ _ s
   simp only[n1,n2,n3,hW]
   cases t with
   |false=>
    refine zz0 (zz1 ?_)
    exact zz1 ⟨Code.quiet_builtin _ (by decide+kernel),ih (i+1) j true q sl (by omega) eq hs (by omega) fun _=>by omega⟩
   |true=>
    have jl:=ht rfl
    obtain⟨g3,ws3,hd3,h3⟩:=ChainP.node L j sl c g hs
    obtain⟨nx,hnx⟩:∃nx,L[j+1]? =some nx:=⟨_,oU (show j+1 < L.length by have:=(Zar.mp eq).1;omega)⟩
    have hd4:wo (L.drop (j+1))=.ref nx.1:=by
     have hlt:=(Zar.mp hnx).1
     rw[List.drop_eq_getElem_cons hlt,←(Zar.mp hnx).2]
     rfl
    rw[hd4]at h3
    refine zz0 (wpAny_field g3 hd3 h3 ?_)
    exact zz1 ⟨Code.quiet_builtin _ (by decide+kernel),ih (i+1) (j+1) false q nx (by omega) eq hnx (by omega) fun z=>(nomatch z)⟩
theorem sr{L:List (Addr×Obj)}{e:Value}{p:Addr×Obj}(c:ChainP (p::L))(g:∀q∈p::L,s.heap.get? q.1=some q.2)(hne:∀q∈p::L,Value.ref q.1≠e)(hQ:Q .none s):
  wpAny (model prog w) A (runValue (.builtin "proto.unchain" ⟨[e,.ref p.1,.ref p.1,.bool false],[]⟩)) Q E s:=
 wpAny_runValue (qD c g hne hQ (L.length+1) 0 0 false p p (by simp) rfl rfl (eD _) fun z=>(nomatch z))
theorem uP{it:Addr}{x left step:Int}{ea:Addr×Obj}{L:List (Addr×Obj)}{Q:Option Value→Shared→Prop}(hh:A.handled=some (.ref ea.1))(hL:ChainP (ea::L))(hg:∀q∈ea::L,s.heap.get? q.1=some q.2)(hit:IsRangeIter s.heap it x left step)(hleft:left≤0)
  (hQ:∀h',Heap.ExtBut it s.heap h'→Q none {s with heap:=h'}):wpAny (model prog w) A (pyNext (.ref it)) Q E s:=by
 have hT:s.TypeIs (.ref it) "range_iterator":=⟨_,hit,rfl⟩
 unfold pyNext
 refine zz0 (wpAny_attempt (wpAny_callSpecial?_slot (name:=Str.ofString "__next__") hT F.slot_range_iterator_next
  (wpAny_call_entry F.slot_range_iterator_next hT F.entry_range_iterator_next ?_ (F.args_range_iterator_next_1 _))))
 show wpAny _ _ (field (.ref it) 0 >>= _) _ _ s
 refine zz0 (wpAny_field hit rfl (x:=rawInt x) rfl ?_)
 show wpAny _ _ (field (.ref it) 1 >>= _) _ _ s
 refine zz0 (wpAny_field hit rfl (x:=rawInt left) rfl ?_)
 show wpAny _ _ (field (.ref it) 2 >>= _) _ _ s
 refine zz0 (wpAny_field hit rfl (x:=rawInt step) rfl ?_)
 show wpAny _ _ (if left≤0 then _ else _) _ _ s
 rw[if_pos hleft]
 refine zz0 (wpAny_rule ?_)
 refine zz0 ?_
 show wpAny _ _ (newExc (.type "StopIteration") [] >>= _) _ _ _
 refine zz0 ?_
 simp only[newExc,newTuple]
 refine zz0 (wpAny_newObj_type ?_ (by size_fits))
 refine zz0 (m:=firstArgMember _ _) (wpAny_of_eq (a:=Value.none) (by first |rfl |(simp only[firstArgMember];rfl)) ?_)
 refine wpAny_newObj_type ?_ (by size_fits)
 simp only[raiseNew]
 refine zz0 (wpAny_handled ?_)
 first |rw[show A.in1.handled=some (.ref ea.1)from hh] |rw[hh]
 simp only
 have ho:=hg ea (jJ ..)
 have hlt:=eI ho
 rw[if_pos (by rw[bne_iff_ne];intro z;injection z with z;rw[z,rk]at hlt;exact absurd (Nat.lt_of_succ_lt hlt) (Nat.lt_irrefl _))]
 refine zz0 (zz7 (sr hL (fun q hq=>eT _ (eT _ (hg q hq))) (fun q hq z=>?_) ?_))
 ·injection z with z
  have:=eI (hg q hq)
  rw[z,rk]at this
  exact absurd (Nat.lt_of_succ_lt this) (Nat.lt_irrefl _)
 show wpAny _ _ (setField (.ref _) 2 (.ref ea.1) >>= _) _ _ _
 have hn:=kh (s.heap.push {cls:=Value.type "tuple",data:=Data.seq #[]}) (o:={cls:=Value.type "StopIteration",data:=Data.fields (#[Value.ref s.heap.objs.size,Value.none,Value.none,Value.none,Value.bool false,Value.none]++ownMembersOf (Value.type "StopIteration") [])}) rfl
 refine zz0 (wpAny_setField hn rfl (by rw[Array.size_append];exact kT (by decide) (Nat.le_add_right 6 _)) (wpAny_throw ?_))
 refine zz0 (wpAny_isInstance (T:="StopIteration") (b:=true) ⟨_,Heap.get?_update_self _ hn (Obj.isFreed_of_fields (Obj.data_mapFields rfl _)),rfl⟩ isSubtype_stop ?_)
 refine zz1 (hQ _ fun b o hb e=>?_)
 have:=eI e
 rw[zF _ _ (by rw[rk];intro z;rw[←z]at this;exact absurd (Nat.lt_of_succ_lt this) (Nat.lt_irrefl _))]
 exact eT _ (eT _ e)
end
end PL
namespace PL
open PySem PySem.Spec PyProof.Rows L2 Nh
def wt(t ea:Addr):Array Value:=#[.ref t,.none,.ref ea,.none,.bool true,.none]
section
variable {prog:Program} {w:World} {A:Around} {E:Value→Shared→Prop} {env:Env}
variable {nm q:Str} {C N:Addr} {bs bm:List Value} {hdct:Bool} {sn:List Str} {sub:List Value} {ab:Bool} {col:Option Bool} {dd:Option Addr} {k0 k1 k2 k3 k5:Option Value} {B newId initId:String} {bmB:List Value}
theorem CV{s:Shared} {e:Addr} {vs:Array Value} {msg:String}  (hbase:bm.contains (.type "BaseException")=true) (hC:s.heap.get? C=some (excClassObj nm q C N bs bm hdct sn sub ab col dd k0 k1 k2 k3 k5 newId)) (he:s.heap.get? e=some {cls:=.ref C,data:=.fields vs}) (hQ:Q (.ref e) s):
  wpAny (model prog w) A (excFromValue (.ref e) msg) Q E s:=by
 have hcB:(Value.ref C::bm).contains (.type "BaseException")=true:=by rw[List.contains_cons,hbase,Bool.or_true]
 obtain⟨hp,g,d,tk,os⟩:=s
 unfold excFromValue
 repeat (first |with_reducible refine wpAny_loadPart_at he ?_ |with_reducible refine wpAny_loadPart_at hC ?_ |(with_reducible refine wpAny_isSubtype_exc hC ?_;rw[hcB]) |wp_step)
 exact hQ
theorem JH{s:Shared}{e:Addr}{vs:Array Value}{k:Bool→Sem α}{Q:α→Shared→Prop}(he:s.heap.get? e=some {cls:=.ref C,data:=.fields vs})(hQ:wpAny (model prog w) A (k false) Q E s):wpAny (model prog w) A (isType (.ref e) >>= k) Q E s:=by
 refine zz0 ?_
 simp only[isType,loadHead]
 exact zz0 (wpAny_loadPart he (zz1 hQ))
theorem IR{s:Shared}{e:Addr}{vs:Array Value}{k:Value→Sem α}{Q:α→Shared→Prop}(hC:s.heap.get? C=some (excClassObj nm q C N bs bm hdct sn sub ab col dd k0 k1 k2 k3 k5 newId))(he:s.heap.get? e=some {cls:=.ref C,data:=.fields vs})(hQ:wpAny (model prog w) A (k (.ref e)) Q E s):wpAny (model prog w) A (raisedInstance (.ref e) >>= k) Q E s:=by
 refine zz0 ?_
 obtain⟨hp,g,d,tk,os⟩:=s
 unfold raisedInstance
 repeat (first |with_reducible refine wpAny_loadPart_at he ?_ |with_reducible refine wpAny_loadPart_at hC ?_ |wp_step)
 exact hQ
theorem oi{s:Shared} {x c:Sem Value} {Q:Flow→Shared→Prop}  (hbase:bm.contains (.type "BaseException")=true) (hh:A.handled=some (.ref ea))
  (h:wpAny (model prog w) A x (fun v s₁=>∃e t oe L,v=.ref e∧s₁.heap.get? C=some (excClassObj nm q C N bs bm hdct sn sub ab col dd k0 k1 k2 k3 k5 newId)∧
   s₁.heap.get? e=some {cls:=.ref C,data:=.fields #[.ref t,.none,.none,.none,.bool false,.none]}∧ChainP ((ea,oe)::L)∧(∀p∈(ea,oe)::L,s₁.heap.get? p.1=some p.2∧p.1≠e)∧
   ∀h',h'.get? e=some {cls:=.ref C,data:=.fields (wt t ea)}→Heap.SameBut e s₁.heap h'→E (.ref e) {s₁ with heap:=h'}) E s)
  (hc:∀{Q':Value→Shared→Prop} {s₁:Shared},Q' .none s₁→wpAny (model prog w) A c Q' E s₁):wpAny (model prog w) A (raiseStmt env (some x) (some c)) Q E s:=by
 unfold raiseStmt
 refine zz0 (zz2 h (fun v s₁ h₁=>?_) fun _ _ x=>x)
 obtain⟨e,t,oe,L,rfl,hC,he,hch,hnd,hE⟩:=h₁
 have nC:C≠e:=fun z=>by rw[z,he]at hC;cases hC
 refine zz0 (zz7 (hc ?_))
 refine zz0 (zz1 ?_)
 dsimp only
 refine zz0 (zz7 (CV hbase hC he ?_))
 rw[if_pos (show(Value.none == Value.none)=true from rfl)]
 refine zz0 (zz1 ?_)
 refine zz0 (wpAny_setField_rec he (by simp) fun h1 he1 hs1=>?_)
 refine zz0 (wpAny_setField_rec he1 (by simp) fun h2 he2 hs2=>?_)
 have sb:Heap.SameBut e s₁.heap h2:=hs1.trans hs2
 have he2':h2.get? e=some {cls:=.ref C,data:=.fields #[.ref t,.none,.none,.none,.bool true,.none]}:=he2
 have hC2:h2.get? C=some (excClassObj nm q C N bs bm hdct sn sub ab col dd k0 k1 k2 k3 k5 newId):=(sb.2 C nC).trans hC
 refine JH he2' ?_
 simp only[hW]
 refine IR hC2 he2' ?_
 unfold setFlight
 refine zz0 (zz0 (wpAny_field he2' rfl (x:=.none) rfl ?_))
 rw[if_neg (by decide)]
 refine zz1 ?_
 unfold raiseNew
 refine zz0 (wpAny_handled ?_)
 rw[hh]
 simp only
 have ne:(Value.ref ea != Value.ref e)=true:=bne_iff_ne.mpr fun z=>(hnd _ (jJ ..)).2 (Value.ref.inj z)
 rw[if_pos ne]
 refine zz0 (zz7 (sr hch (fun p hp=>(sb.2 p.1 (hnd p hp).2).trans (hnd p hp).1) (fun p hp z=>(hnd p hp).2 (Value.ref.inj z)) ?_))
 show wpAny _ _ (setField (.ref e) 2 (.ref ea) >>= _) _ _ _
 refine zz0 (wpAny_setField_rec he2' (by simp) fun h3 he3 hs3=>?_)
 exact wpAny_throw (hE h3 he3 (sb.trans hs3))
theorem uQ{s:Shared}(F:ExcBaseFacts B newId initId bmB){mN:Str→Option Value}{j2:Nat}{args:List Expr}{Q:Flow→Shared→Prop}{L:List (Addr×Obj)}
  (hbase:bm.contains (.type "BaseException")=true) (hh:A.handled=some (.ref ea)) (hch:ChainP ((ea,oe)::L)) (hplain:(backTo cpos (starEach args env)).any (·.1)=false) (hni:mN "__init__"=none)
  (h:wpAny (model prog w) A (eval (.Name x np) env) (fun f s₁=>f=.ref C∧wpAny (model prog w) A (evalArgs (.ref C) true (backTo cpos (starEach args env)) [])
   (fun a s₂=>a.kw=[]∧a.pos.length≤sizeLine∧s₂.heap.get? C=some (excClassObj nm q C N bs bm hdct sn sub ab col dd k0 k1 k2 k3 k5 newId)∧s₂.heap.Ns N mN∧OwnTail s₂.heap bmB bm∧(∀p∈(ea,oe)::L,s₂.heap.get? p.1=some p.2)∧
    ∀h' h'' e t,Heap.MadeExcOf s₂.heap h' e (.ref C) a.pos→h''.get? e=some {cls:=.ref C,data:=.fields (wt t ea)}→Heap.SameBut e h' h''→E (.ref e) {s₂ with heap:=h''}) E s₁) E s):
  wpAny (model prog w) A (exec (.Raise (some (.Call (.Name x np) args [] cpos)) (some (.Constant .none j2 p2)) pos) env) Q E s:=by
 rw[arm_exec_Raise]
 simp only[evalOpt,Option.map]
 refine zz0 (wpAny_standAt (oi (C:=C) (nm:=nm) (q:=q) (N:=N) (bs:=bs) (bm:=bm) (hdct:=hdct) (sn:=sn) (sub:=sub) (ab:=ab) (col:=col) (dd:=dd) (k0:=k0) (k1:=k1) (k2:=k2) (k3:=k3) (k5:=k5) (newId:=newId) hbase hh ?_ fun q=>zz0 (wpAny_Constant_none (zz0 (wpAny_standAt (zz1 q))))))
 refine zz0 (zz2 (wpAny_Call_ofName (zz2 h (fun f s₁ h₁=>?_) fun _ _ x=>x)) (fun v s₃ h₃=>zz0 (wpAny_standAt (zz1 h₃))) fun _ _ x=>x)
 obtain⟨rfl,h₁⟩:=h₁
 unfold callWith
 refine zz0 (zz7 (zz2 h₁ (fun a s₂ h₂=>zz0 (wpAny_standAt ?_)) fun _ _ x=>x))
 obtain⟨apos,akw⟩:=a
 obtain⟨hkw,hlen,hC,hn,T,hnd,h₂⟩:=h₂
 obtain rfl:akw=[]:=hkw
 obtain⟨hp,g,d,tk,os⟩:=s₂
 simp only[hplain]
 refine zz0 (wpAny_keeperOf_exc hC ?_)
 refine zz0 (wpAny_call_exc_subT (hrest:=hlen) F T hC hn hni fun h' e hm=>zz0 (zz7 (wpAny_point (zz1 ?_))))
 obtain⟨t,ht,_,_⟩:=hm.there
 exact⟨e,t,oe,L,rfl,hm.keeps _ _ hC,ht,hch,fun p hp=>⟨hm.keeps _ _ (hnd p hp),fun z=>by have:=hnd p hp;rw[z]at this;have n:=hm.new;rw[this]at n;cases n⟩,fun h'' a b=>h₂ h' h'' e t hm a b⟩
end
def su(ok:List Str)(n2:Str)(r:fI):fI:=fun E=>match r E with
 |some (n,E')=>if n∈ok then some (n2,E')else none
 |none=>none
theorem yG{σ:L2.St}{s:Shared}(I:Inv (Gr X ea) pins σ H s)(ok:X.Ok):Inv X pins σ H s:=
 ⟨ok,I.os,I.bare,I.base,I.loc,I.cell,I.free,I.freeC,I.pin,I.hok,I.len⟩
theorem CW{x2 tx:Str}{C2:Addr}{np2 rpos:Pos}{j2:Nat}{ok:List Str}{r:fI}(hex:X.ex=[])(hst:X.stack=X.env::X.outer)(hfr:X.env.frame=some X.env.locals)(hg:Gl X cn)(hm:X.mg cn=some (.ref CH))
  (hok:∀n∈ok,∀C,nsIn X.K mainGlobals n=some (some (.ref C))→exmOne X.K (.ref C) (.ref CH)=some true) (hr:∀W,BY (X.wish W) false false body r) (hg2:Gl X x2) (Z:XC X.K X.mg x2 C2) (hdb:(cn == ("__debug__":Str))=false:=by decide) (q9:(x2 == ("__debug__":Str))=false:=by decide)
  (he:starEach [.Constant (.str tx) j p] X.env=[(false,eval (.Constant (.str tx) j p) X.env)]:=by rfl):
  RX X mk true (.Try body [.ExceptHandler (some (.Name cn np)) none [.Raise (some (.Call (.Name x2 np2) [.Constant (.str tx) j p] [] cpos)) (some (.Constant .none j2 p2)) rpos] hpos] [] [] pos) (su ok x2 r):=fun pins s σ H B E n E' I fr e k=>by
 unfold su at e
 split at e
 rotate_left
 ·cases e
 rename_i n1 E1 er
 split at e
 rotate_left
 ·cases e
 rename_i hc
 cases e
 refine wpAny_Try_except (zz2 (hr (fun e s₁=>wpAny (model X.prog X.w) X.A (noteFrame e X.env) (fun _ s₂=>wpAny (model X.prog X.w) X.A (setFlight e none) (fun _ s₃=>wpAny (model X.prog X.w) X.A (handleBy e X.env [.ExceptHandler (some (.Name cn np)) none [.Raise (some (.Call (.Name x2 np2) [.Constant (.str tx) j p] [] cpos)) (some (.Constant .none j2 p2)) rpos] hpos]) (fun _ _=>False) X.xe s₃) X.xe s₂) X.xe s₁) pins s σ H B E n1 E' (I.wish _) fr er fun pp hp σ' C H' ns fr'=>⟨fun z=>(nomatch z),?_,fun z=>(nomatch z)⟩) (fun _ _ z=>z.elim) fun _ _ z=>z)
 cases hp rfl
 intro H1 s1 ea s' a0 Bb I1 os bare fly hokB u
 have I1:Inv X pins σ' H1 s1:=I1.unwish
 have ff:s'.heap.FunFrames Bb X.stack:=fly.2.2.1
 have fly':FlyC H' Bb (X.env::X.outer) ea (.ref C) a0 s'.heap:=hst▸fly
 have invAt:∀h5,Bb.StaysIn h5→s'.heap.UpToSlots h5→Inv X pins σ' H' {s' with heap:=h5}:=fun h5 st k=>by
  have u2:UnB (gb X.stack) H1 H' s1.heap Bb h5:=u.on ff k
  exact I1.call' (s':={s' with heap:=h5}) os (u2.un st I1.stkFree) (hokB.kept fun b o e=>st b o e) bare fun b z=>(nomatch z)
 refine jW (by rw[I1.ok.frames,hst]) hfr fly' fun h4 held4 k4=>?_
 refine uM held4 fun h5 fly5 k5=>?_
 have I5:=invAt h5 fly5.1 (k4.trans k5)
 obtain⟨ob,hob,hobc⟩:=fly5.there
 have Z5:eV ea C h5:=⟨ob,hob,hobc⟩
 refine wpAny_handleBy_cons (codeAny_handlers_test (fi (X:=Gr X ea) (lm I5) hg hm ?_ hdb)) (by intro q;cases q)
 refine(PySem.W.exm_one (I5.kIn) (kt Z5) (hok n1 hc C ns)).here ?_
 refine codeAny_handlers_suite ?_
 refine lj fly5 fun h6 fly6 k6=>?_
 have I6:=invAt h6 fly6.1 ((k4.trans k5).trans k6)
 obtain⟨oe,vs,hoe,hoec,hoed,_⟩:=fly6.first
 have nB:Bb.get? ea=none:=fly6.2.1
 have hn6:H' ea=none:=by
  cases q:H' ea with
  |none=>rfl
  |some o=>
   obtain⟨z,e⟩:=mH (hokB ea o q)
   rw[nB]at e
   cases e
 obtain⟨ps,hcp,cv,r1,r2⟩:=fly6.2.2.2.2
 have hchn:ChainP ((ea,oe)::ps):=by
  obtain⟨o,ws,ho,hd,h2⟩:=cv
  rw[hoe]at ho
  cases ho
  exact⟨⟨ws,hd,h2⟩,r2,hcp⟩
 have pk:∀q∈(ea,oe)::ps,sj X H' h6 q:=fun q hq=>by
  obtain⟨ws,hd,_⟩:=ip hchn hq
  have gq:h6.get? q.1=some q.2∧H' q.1=none:=by
   rcases Zai.mp hq with z |z
   ·subst z;exact⟨hoe,hn6⟩
   ·exact⟨fly6.1 q.1 q.2 (r1 q z).1,(r1 q z).2⟩
  refine⟨gq.1,gq.2,fun z=>?_,fun z=>?_,fun v z=>by rw[hd]at z;cases z⟩
  ·obtain⟨_,⟨o,_,_,ho,hdo,_⟩,_⟩:=I6.loc
   rw[←z]at ho
   have:=gq.1.symm.trans ho
   injection this with this
   rw[←this,hd]at hdo
   cases hdo
  ·have hz:q.1∈gb X.stack:=by rw[hst];unfold gb;rw[List.filterMap_cons,hfr];exact gW _ z
   obtain⟨_,o',ho',hdn⟩:=(show h6.FunFrames Bb X.stack from hst▸fly6.2.2.1).mem hz
   rw[gq.1]at ho'
   cases ho'
   exact hdn ws hd
 have I6p:=Hh I6 pk
 obtain⟨tl,N,nm,qq,bs,hdct,sn,sub,ab,col,dd,k0,k1,k2,k3,k5,mN,hC,hN,hni,T⟩:=(AT I6.ok.mod.kin Z.mg Z.ex).obj
 refine wpAny_execs_cons (zz2 (uQ (Q:=fun _ _=>False) (C:=C2) (nm:=nm) (q:=qq) (N:=N) (bs:=bs) (bm:=tl) (hdct:=hdct) (sn:=sn) (sub:=sub) (ab:=ab) (col:=col) (dd:=dd) (k0:=k0) (k1:=k1) (k2:=k2) (k3:=k3) (k5:=k5) (mN:=mN) (ea:=ea) (oe:=oe) (L:=ps)
  PySem.F.excBase_ValueError (T.hasType PySem.F.excBase_ValueError.hasBase) rfl hchn (by rw[he];rfl) hni (fi (X:=Gr X ea) (lm I6p) hg2 Z.mg ⟨rfl,?_⟩ q9)) (fun _ _ z=>z.elim) fun _ _ z=>z)
 have q1:=cP (X:=Gr X ea) (p_ (x:=tx) (j:=j) (pos:=p)) eJ he cpos _ _ σ' H' (fun vs H1=>vs=[.str tx]∧H1=H') (lm I6p) ⟨rfl,rfl⟩
 rw[he]at q1 ⊢
 refine Calls.evalArgs_plain (zz2 q1 (fun vs s2 z=>?_) fun _ _ z=>z.elim)
 obtain⟨us,H2,I2,rv,eu,eH⟩:=z
 subst eu eH
 have I2:=yG I2 I6.ok
 obtain⟨I2,pk2⟩:=Hi I2
 refine⟨rfl,by rw[←rv.length];exact Nat.le_of_ble_eq_true rfl,I2.bk _ _ hC,hN.keeps I2.bk,T.keeps I2.bk,fun q hq=>(pk2 q hq).1,fun h7 h8 e2 t hmd he2 sb=>?_⟩
 have st:=I2.stack
 have hin:∀env∈X.stack,∀b,env.frame=some b→b∈gb X.stack:=fun env he b hb=>List.mem_filterMap.mpr ⟨env,he,hb⟩
 have ffh:=funFrames_hide st hin
 have ne2:∀b o,s2.heap.get? b=some o→b≠e2:=fun b o e z=>by rw[z,hmd.new]at e;cases e
 have kp8:∀b o,s2.heap.get? b=some o→h8.get? b=some o:=fun b o e=>(sb.2 b (ne2 b o e)).trans (hmd.keeps b o e)
 have hen:(hideAll s2.heap (gb X.stack)).get? e2=none:=by
  cases hq:(hideAll s2.heap (gb X.stack)).get? e2 with
  |none=>rfl
  |some o'=>have:=of_hideAll _ hq;rw[hmd.new]at this;cases this
 have nfs:∀q∈(ea,oe)::ps,q.1∉gb X.stack:=fun q hq z=>by
  rcases Zai.mp (I2.stkSub q.1 z)with w |w
  ·exact(pk2 q hq).2.2.1 w
  ·exact(pk2 q hq).2.2.2.1 w
 have cx:CtxN H2 (hideAll s2.heap (gb X.stack)) e2 h8:=⟨(ea,oe)::ps,hchn,⟨_,_,he2,rfl,rfl⟩,fun q hq=>⟨hideAll_get _ (pk2 q hq).1 (nfs q hq),(pk2 q hq).2.1⟩,fun q hq=>ne2 _ _ (pk2 q hq).1⟩
 show wpAny _ _ (noteFrame _ _) _ _ _
 refine oa (Hf:=H2) (base:=hideAll s2.heap (gb X.stack)) (P:=fun h'=>Heap.HeldW (hideAll s2.heap (gb X.stack)) (X.env::X.outer) e2 (.ref C2) (.ref t) X.env.locals h'∧h8.UpToSlots h') (m8 _ _) cx (fun kk=>?_) fun h9 ⟨x1,x2⟩ z9=>?_
 ·have h1:(wt t ea)[1]? =some Value.none:=rfl
  unfold noteFrame
  simp only[hfr]
  refine zz0 (wpAny_field he2 rfl h1 ?_)
  rw[if_neg (show ¬((Value.none != Value.none)=true)from by decide)]
  exact wpAny_entryW (a0:=.ref t) (by show X.A.frames=_;rw[I1.ok.frames,hst]) ((hst▸ffh:s2.heap.FunFrames (hideAll s2.heap (gb X.stack)) (X.env::X.outer)).of_keeps fun b o hb _=>⟨o,kp8 b o hb,rfl⟩) hfr he2 (fun b o hb=>kp8 b o (of_hideAll _ hb)) hen rfl (by simp[wt]) rfl fun h' ⟨y1,y2,y3,y4⟩=>kk h' ⟨⟨y1,hen,y2,y3⟩,y4⟩
 ·have hh:HeldC H2 (hideAll s2.heap (gb X.stack)) X.stack e2 (.ref C2) (.ref t) X.env.locals h9:=by
   have q:=HeldC.of x1 z9
   rw[←hst]at q
   exact q
  refine pQ hfr hh fun h10 y1 y2=>?_
  refine(k pins (fun z=>(nomatch z)) σ' C2 H2 Z.ns fr').2.2 rfl H2 s2 e2 {s2 with heap:=h10} (.ref t) _ I2 rfl I2.bare y1 (fun a o e=>?_) ⟨fun b o e n hb=>hideAll_get _ e hb,fun b o e n hb=>?_,fun _ _ _ n=>n,fun b o e hb=>⟨o,hideAll_get _ e hb⟩,fun _ _ e=>e,fun _ _ _ e=>e,fun _ _ e=>e⟩
  ·refine(I2.hok a o e).stay (fun b u hb q=>hideAll_get _ q fun z=>?_) (fun _ q=>q) fun _ _ q=>q
   have n:=I2.stkFree b z
   rcases hb with rfl |hb
   ·rw[n]at e;cases e
   ·rw[n]at hb;cases hb
  ·obtain⟨_,o',ho',hd⟩:=st.mem hb
   rw[e]at ho'
   cases ho'
   exact(x2.trans y2) b o (kp8 b o e) hd
end PL
namespace PL
open PySem PySem.Spec PyProof.Rows L2 Nh
def FP:bj:=fun E=>some (.sh (.dict []),E)
theorem D5:EX X (.Dict [] [] pos) false FP:=by
 refine bv Al fun σ H Q z=>?_
 obtain⟨B,E,xs,Xs,res,E',⟨F,A,fr⟩,c,e,q⟩:=z
 cases e
 intro p hp
 have fr2:=fr.grow (fz hp (.dK []))
 exact q _ _ ⟨_,_,fr2.push ⟨rfl,_,rfl,.dct (.inl (by show(if p∈A then none else _)=_;rw[if_neg (fr.newA hp)];exact upd_same)) .nil⟩⟩
end PL
namespace PL
open PySem PySem.Spec PyProof.Rows L2 Nh
def RE(X:Cx)(al:Bool)(e:Expr)(r:fI):Prop:=∀pins s σ H B E n E',Inv X pins σ H s→Frm X.K B σ H E [] []→r E=some (n,E')→
 (∀pins',(al=false→pins'=pins)→∀σ' C H',nsIn X.K mainGlobals n=some (some (.ref C))→Frm X.K B σ' H' E' [] []→AS X C pins' σ' H'∧(al=true→se X C pins' σ' H'))→wpAny (model X.prog X.w) X.A (eval e X.env) (fun _ _=>False) X.xe s
section
variable {X:Cx} {k:Nat} {x:Str} {ps:List Str} {r:fI} {p pos cpos:Pos} {e:Expr} {es:List Expr} {m al mk:Bool}
theorem qF{q:List PyData→Option Str} {g:lM} (D:OwnR X.prog X.w X.K X.mg X.base k x ps (qC X.K q)) (hr:Room k X.A) (hg:Gl X x) (ha:AX X.nox (e::es) m g) (hdb:(x == ("__debug__":Str))=false:=by decide) (he:starEach (e::es) X.env=(false,eval e X.env)::starEach es X.env:=by rfl) (hpl:(backTo pos (starEach es X.env)).any (·.1)=false:=by rfl):
  RE X al (.Call (.Name x p) (e::es) [] pos) (cB q g):=fun pins s σ H B E n E' I fr ee k=>
 g7 D hr hg ha hdb he hpl I fr ee fun C H' z f=>(k pins (fun _=>rfl) σ C H' z f).1
theorem uR(D:Own X.prog X.w X.K X.mg X.base k x ps sp) (hg:Gl X x) (h:RE X al e r) (hdb:(x == ("__debug__":Str))=false:=by decide) (he:starEach (e::es) X.env=(false,eval e X.env)::starEach es X.env:=by rfl) (hpl:(backTo pos (starEach es X.env)).any (·.1)=false:=by rfl):
  RE X al (.Call (.Name x p) (e::es) [] pos) r:=fun pins s σ H B E n E' I fr ee k=>by
 obtain⟨f,fd,F,b,mx,kp⟩:=D
 refine zz6 (fi I hg mx ?_ hdb)
 refine callWith_K (h₀:=X.base) I.ok.mod.kin kp ?_ he hpl
 rw[he]
 exact Calls.spliced_cons (zz2 (h pins s σ H B E n E' I fr ee k) (fun _ _ z=>z.elim) fun _ _ z=>z)
theorem wu(h:RE X al e r):RX X mk al (.Return (some e) pos) r:=fun pins s σ H B E n E' I fr ee k=>
 wpAny_Return_some (ce (h pins s σ H B E n E' I fr ee fun pp q σ' C H' z f=>(k pp q σ' C H' z f).2) fun _ _ z=>z.elim)
theorem CY{y:Str}(h:RE X al e r)(hs:swapsWith e (some (.Name y pos')) pos.line X.env=pure false:=by rfl):RX X mk al (.Assign [.Name y pos'] e pos) r:=fun pins s σ H B E n E' I fr ee k=>
 wpAny_Assign_Name (ce (h pins s σ H B E n E' I fr ee fun pp q σ' C H' z f=>(k pp q σ' C H' z f).2) fun _ _ z=>z.elim) hs
end
theorem CZ{a b:Env}(h:a.frame=b.frame)(e:Value):noteFrame e a=noteFrame e b:=by
 unfold noteFrame PySem.frameOf
 rw[h]
section
variable {M:Model} {A:Around} {E:Value→Shared→Prop} {s:Shared}
theorem sx{base:Heap}{l:List Env}{e:Addr}{cls:Value}{Q:Unit→Shared→Prop}(hh:HeldC Hf base l e cls a0 L s.heap)
  (hQ:∀h',HeldC Hf base l e cls a0 L h'→s.heap.UpToSlots h'→Q () {s with heap:=h'}):wpAny M A (setFlight (.ref e) (some L)) Q E s:=by
 obtain⟨hkb,hen,hl,⟨oe,vs,T,oT,ts,he,hcls,hd,h1,hnT,hTe,hT,hdT,h3⟩,c0⟩:=hh
 have hz:3 < ts.size:=(Array.getElem?_eq_some_iff.mp h3).1
 have other:∀b,b≠T→(s.heap.update T (Obj.mapFields (·.setIfInBounds 3 ((some L).elim Value.none fun f=>rawInt f)))).get? b=s.heap.get? b:=fun b hb=>zF _ _ (Ne.symm hb)
 have noRec:∀b o,s.heap.get? b=some o→(∀vs,o.data≠ .fields vs)→b≠T:=fun b o hb hnf q=>by
  rw[q,hT]at hb;injection hb with hb;subst hb;exact hnf ts hdT
 unfold setFlight
 refine zz0 (wpAny_field he hd h1 ?_)
 rw[if_pos (show(Value.ref T != Value.none)=true from by simp)]
 refine wpAny_setField hT hdT hz (hQ _ ⟨fun b o q=>(other b fun z=>by rw[z,hnT]at q;cases q).trans (hkb b o q),hen,
  hl.of_keeps fun b o hb hnf=>⟨o,(other b (noRec b o hb hnf)).trans hb,rfl⟩,?_⟩ fun b o hb hnf=>⟨o.slots,(other b (noRec b o hb hnf)).trans hb⟩)
 exact⟨⟨oe,vs,T,_,_,(other e (Ne.symm hTe)).trans he,hcls,hd,h1,hnT,hTe,Heap.get?_update_self _ hT (Obj.isFreed_of_fields (Obj.data_mapFields hdT _)),Obj.data_mapFields hdT _,by simp[hz]⟩,CtxN.upd c0 (uJ (by decide))⟩
theorem yH{base:Heap}{env:Env}{l:List Env}{e:Addr}{cls:Value}{what:String}(hf:env.frame=some L)(hh:HeldC Hf base l e cls a0 L s.heap)
  (hE:∀h',HeldC Hf base l e cls a0 L h'→s.heap.UpToSlots h'→E (.ref e) {s with heap:=h'}):wpAny M A (PySem.passOn what (.ref e) env) Q E s:=by
 unfold PySem.passOn
 have hh':=hh
 obtain⟨hkb,hen,hl,⟨oe,vs,T,oT,ts,he,hcls,hd,h1,hnT,hTe,hT,hdT,h3⟩,c0⟩:=hh
 refine zz0 (wpAny_field he hd h1 ?_)
 rw[if_neg (show ¬((Value.ref T == Value.none)=true)from by simp),hf]
 exact zz0 (sx hh' fun h' a b=>wpAny_throw (hE h' a b))
end
theorem lq(e:h.get? C=some o)(nf:o'.isFreed=false):(h.update C fun _=>o').get? C=some o':=Heap.get?_update_self (fun _=>o') e nf
theorem je{B B':Heap}:∀{l:List Env},(∀b,B.get? b=none→B'.get? b=none)→(∀b,B.get? b=none→h'.get? b=h.get? b)→h.FunFrames B l→h'.FunFrames B' l
 |[],_,_,_=>trivial
 |_::_,n,k,⟨a,⟨L,o,hf,hn,ho,hd⟩,r⟩=>⟨a,⟨L,o,hf,n L hn,(k L hn).trans ho,hd⟩,je n k r⟩
theorem HeldC.swap{B:Heap}{l:List Env}{e:Addr}{cls:Value}(x:HeldC Hf B l e cls a0 L h)(hs:Heap.SameBut C h h')(eB:B.get? C=some o)(nr:∀vs,o.data≠ .fields vs)(eh:h'.get? C=some o')(nf:o'.isFreed=false):HeldC Hf (B.update C fun _=>o') l e cls a0 L h':=by
 obtain⟨k,hn,ff,⟨oe,vs,T,oT,ts,he,hc,hd,h1,hnT,hTe,hT,hdT,h3⟩,ps,cp,⟨oc,vc,hec,hdc,h2⟩,r1,r2⟩:=x
 have nC:∀b,B.get? b=none→b≠C:=fun b q z=>by rw[z,eB]at q;cases q
 have oth:∀b,b≠C→(B.update C fun _=>o').get? b=B.get? b:=fun b q=>zF _ _ (Ne.symm q)
 have same:∀b,B.get? b=none→h'.get? b=h.get? b:=fun b q=>hs.2 b (nC b q)
 have stil:∀b,B.get? b=none→(B.update C fun _=>o').get? b=none:=fun b q=>(oth b (nC b q)).trans q
 refine⟨fun b u q=>?_,stil e hn,je stil same ff,⟨oe,vs,T,oT,ts,(same e hn).trans he,hc,hd,h1,stil T hnT,hTe,(same T hnT).trans hT,hdT,h3⟩,ps,cp,⟨oc,vc,(same e hn).trans hec,hdc,h2⟩,fun p hp=>⟨?_,(r1 p hp).2⟩,r2⟩
 rotate_left
 ·refine(oth p.1 fun z=>?_).trans (r1 p hp).1
  obtain⟨ws,hw,_⟩:=ip cp hp
  have q:=(r1 p hp).1
  rw[z,eB]at q
  injection q with q
  exact nr ws (q▸hw)
 by_cases z:b=C
 ·subst z
  rw[lq eB nf]at q
  rw[eh];exact q
 ·rw[oth b z]at q
  exact(hs.2 b z).trans (k b u q)
theorem UnB.swap{fs:List Addr}{B h3:Heap}{oB:Obj}(u:UnB fs H H' h B h2)(nC:C∉fs)(hH:H C=none)(e:h.get? C=some o)(eB:B.get? C=some oB)(nf:o'.isFreed=false)(hs:∀b,b≠C→h3.get? b=h2.get? b):
  UnB fs H H' (h.update C fun _=>o') (B.update C fun _=>o') h3:=by
 have oth:∀(g:Heap) b,b≠C→(g.update C fun _=>o').get? b=g.get? b:=fun g b q=>zF _ _ (Ne.symm q)
 refine⟨fun b p q n hb=>?_,fun b p q n hb=>?_,fun b p q n=>?_,fun b p q hb=>?_,u.tups,u.frzs,u.tbls⟩
 ·by_cases z:b=C
  ·subst z;rw[lq e nf]at q;rw[lq eB nf];exact q
  ·rw[oth h b z]at q;rw[oth B b z];exact u.keep b p q n hb
 ·have z:b≠C:=fun z=>nC (z▸hb)
  rw[oth h b z]at q
  obtain⟨sl,w⟩:=u.slot b p q n hb
  exact⟨sl,(hs b z).trans w⟩
 ·by_cases z:b=C
  ·subst z;exact u.free b o e hH
  ·rw[oth h b z]at q;exact u.free b p q n
 ·by_cases z:b=C
  ·subst z;exact⟨o',lq eB nf⟩
  ·rw[oth h b z]at q;obtain⟨w,hw⟩:=u.there b p q hb;exact⟨w,(oth B b z).trans hw⟩
theorem HOk.swap{w:World}{B:Heap}{o:Obj}(x:HOk P w H B)(hn:H C=none):HOk P w H (B.update C fun _=>o'):=fun a u e=>by
 refine(x a u e).stay (fun b q hb z=>?_) (fun _ z=>z) fun _ _ z=>z
 rw[zF _ _ fun z2=>?_]
 ·exact z
 ·rcases hb with rfl |hb
  ·rw[←z2,hn]at e;cases e
  ·rw[←z2,hn]at hb;cases hb
def FQ(M:Model)(A:Around)(E:Value→Shared→Prop)(cenv:Env)(r:Result)(s':Shared):Prop:=match r with
 |.ok _=>False
 |.error x=>∃m,s'.heap.Ns cenv.locals m∧∀h' m',h'.Ns cenv.locals m'→Heap.SameBut cenv.locals s'.heap h'→wpAny M A (PySem.passOn "comprehension.variables-let-go" x cenv:Sem Value) (fun _ _=>False) E {s' with heap:=h'}
section
variable {M:Model} {A:Around} {E:Value→Shared→Prop} {s:Shared} {env:Env}
theorem sy{newAcc first:Sem Value}{g:Comprehension}{gs:List Comprehension}{cl:List (Str×Addr)}{use:Option (Value→Sem Unit)}
  (hcl:clausesOf e=g::gs) (hs:∀x,foldedSetIterable g.iter env x=pure x) (hclos:closureFor scope env=pure cl) (hk:scope.kind=.function) (hnm:∀x∈scope.names,x.2=.local→scope.names.lookup x.1=some .local)
  (h:wpAny M A first (fun x s₁=>wpAny M A (pyIter x) (fun it s₂=>wpAny M A newAcc (fun acc s₃=>wpAny M A (newFunctionEnv scope env.globals cl [] env.qual none .none (some env)) (fun cenv s₄=>
    codeAny M A (.compStart e 0 it acc {cenv with scope:=relabel scope env}) (FQ M A E {cenv with scope:=relabel scope env}) s₄) E s₃) E s₂) E s₁) E s):
  wpAny M A (comprehension e scope env pos newAcc false first use) Q E s:=by
 unfold comprehension
 rw[hclos,hcl]
 refine zz0 (ce h fun x s₁ h₁=>zz0 (wpAny_standAt (zz0 (wpAny_of_eq (hs x) (zz0 (zz7 (ce h₁ fun it s₂ h₂=>wpAny_standIf (zz0 (ce h₂ fun acc s₃ h₃=>
  zz0 (zz1 (zz0 (ce h₃ fun cenv s₄ h₄=>?_))))))))))))
 dsimp only
 refine zz7 (zz0 (wpAny_attempt (zz7 (wpAny_run (codeAny_mono h₄ fun r s' hr=>?_)))))
 cases r with
 |ok f=>exact False.elim hr
 |error x=>
  obtain⟨m,hn,hr⟩:=hr
  refine zz0 (zz7 (wpAny_comp_letGo (cenv:={cenv with scope:=relabel scope env}) hk _ s' m (fun y hy hl=>?_) hn fun h' m' hn' hs'=>zz2 (hr h' m' hn' hs') (fun _ _ z=>z.elim) fun _ _ z=>z))
  exact lookup_relabel_local (hnm y (List.mem_filter.mp (List.mem_reverse.mp hy)).1 hl)
end
section
variable {prog:Program} {w:World} {A:Around} {R:Result→Shared→Prop} {s:Shared}
theorem AZ{elt target:Expr}{it acc:Value}{env:Env}(I:Nat→Shared→Prop)
  (turn:∀n s,I n s→wpAny (model prog w) A (pyNext it) (fun r s₁=>match r with
   |none=>R (.ok .next) s₁
   |some v=>wpAny (model prog w) A (letOwnedTupleGo target it v) (fun _ s₁'=>wpAny (model prog w) A (assign target env v) (fun _ s₂=>
      wpAny (model prog w) A (eval elt env) (fun x s₄=>wpAny (model prog w) A (call (.builtin "list.append") [acc,x]) (fun _ s₅=>∃m,m < n∧I m s₅) (fun _ _=>False) s₄) (notedBy (model prog w) A env fun x s'=>R (.error x) s') s₂)
     (fun _ _=>False) s₁') (fun _ _=>False) s₁) (fun _ _=>False) s)
  (n:Nat) (h:I n s):codeAny (model prog w) A (.compLoop (.ListComp elt [⟨target,iter,[],0⟩] scope pos) 0 it acc env) R s:=by
 refine codeAny_loop rfl I (fun n s hI=>?_) n h
 show wpAny _ A ((compTurn (.ListComp elt [⟨target,iter,[],0⟩] scope pos) 0 it acc env).onRaise (fun x=>do noteFrame x env;theTreesLotGoes x)) _ _ s
 refine wpAny_noted ?_
 rw[compTurn_list]
 refine zz0 (wpAny_standAt (zz0 (zz2 (turn n s hI) (fun r s₁ h₁=>?_) fun _ _ z=>z.elim)))
 cases r with
 |none=>exact zz1 h₁
 |some v=>
  refine zz0 (zz2 h₁ (fun _ s₁' h₁'=>zz0 (zz2 h₁' (fun _ s₂ h₂=>zz0 (wpAny_tests_nil ?_)) fun _ _ z=>z.elim)) fun _ _ z=>z.elim)
  exact zz0 (zz0 (ce h₂ fun x s₄ h₄=>zz0 (zz2 h₄ (fun _ s₅ h₅=>zz1 (zz1 ⟨rfl,h₅⟩)) fun _ _ z=>z.elim)))
end
def gn(tg:gA)(el:bj)(re:fI):List PyData→List Sl→Option Str
 |[],_=>none
 |d::ds,E=>(tg d E).bind fun E1=>match re E1 with
  |some x=>some x.1
  |none=>(el E1).bind fun c=>(frz c.2 c.1).bind fun e=>gn tg el re ds e.2
def sC(js:List (Option Nat))(it:jP)(tg:gA)(el:bj)(re:fI):fI:=fun E=>(it E).bind fun a=>if a.1.length≤1000000 then (gn tg el re a.1 (i9 js a.2)).map fun n=>(n,a.2)else none
def Hl(X Xc:Cx)(n:Str)(H2:Hp)(e:Value)(s':Shared):Prop:=∃pp σ' C H' ea H s a0 Bb,e=.ref ea∧nsIn X.K mainGlobals n=some (some (.ref C))∧Same H2 H'∧Inv Xc pp σ' H s∧s'.os=s.os∧AllBare s'.gens∧FlyC H' Bb X.stack ea (.ref C) a0 s'.heap∧HOk X.prog X.w H' Bb∧UnB (gb X.stack) H H' s.heap Bb s'.heap
section
variable {X:Cx} {elt target iter:Expr} {scope sc:Scope} {cl:List (Str×Addr)} {N:List Str} {pos:Pos} {js:List (Option Nat)} {m m3:Bool} {it:jP} {tg:gA} {el:bj} {re:fI}
theorem A_{use:Option (Value→Sem Unit)}(K:CompOk X scope sc cl N js)(hst:X.stack=X.env::X.outer)(hfr:X.env.frame=some X.env.locals)(hc:X.calm=true)(hi:IX X.nox target iter m it)
  (hgg:∀C s₀ H₀ fp,GX (X.comp sc cl N C s₀ H₀ fp) target tg) (hee:∀C s₀ H₀ fp,EX (X.comp sc cl N C s₀ H₀ fp) elt m3 el) (hre:∀C s₀ H₀ fp W,RE ((X.comp sc cl N C s₀ H₀ fp).wish W) false elt re)
  (hs:∀x,foldedSetIterable iter X.env x=pure x)  {s:Shared} {σ:L2.St} {B:Hp}  {n:Str} (I:Inv X pins σ H s) (fr:Frm X.K B σ H E [] []) (er:sC js it tg el re E=some (n,E'))
  (k:∀C H',nsIn X.K mainGlobals n=some (some (.ref C))→Frm X.K B σ H' E' [] []→se X C pins σ H'):
  wpAny (model X.prog X.w) X.A (comprehension (.ListComp elt [⟨target,iter,[],0⟩] scope pos) scope X.env (firstIterPos [⟨target,iter,[],0⟩] pos) (newList []) false (firstIter [⟨target,iter,[],0⟩] X.env) use) Qv X.xe s:=by
 obtain⟨⟨ds,E1⟩,e1,er⟩:=Za.mp er
 simp only at er
 split at er
 case isFalse=>cases er
 rename_i hlen
 obtain⟨n',e2,er⟩:=Zab.mp er
 cases er
 have h0:=hi pins s σ H (fun J H2=>∃B',Same B B'∧Frm X.K B' σ H2 E' [] []∧tW X.K B' J ds) (I.wish _) ⟨B,E,[],[],ds,E',fr,fun _=>Calm.nil rfl,e1,fun B' J H' a b c=>⟨B',a,b,c⟩⟩
 refine sy (use:=use) rfl hs K.clos K.kind K.names (zz2 h0 (fun v s1 h1=>zz2 h1 (fun itv s2 h2=>?_) fun _ _ z=>z.elim) fun _ _ z=>z.elim)
 obtain⟨it,fp,tn,J,H2,e,I2,T,st2,f2,B',hB,⟨F1,A1,fr1⟩,ok⟩:=h2
 subst e
 have I2:=I2.unwish
 refine wpAny_newObj_type (wpAny_newFunctionEnv K.nocell (by intro y hy;simp at hy) (fun h₁ hns₁ hsb₁=>?_) K.kind)
 dsimp only at hns₁ hsb₁ ⊢
 have I3:Inv X pins σ (upd H2 s2.heap.objs.size (.lst [])) {s2 with heap:=s2.heap.push {cls:=.type "list",dict:=none,data:=.seq ([]:List Value).toArray}}:=I2.lnew (t':=s2.toks) (its:=[]) .nil (zz9 _)
 have hD0:H2 s2.heap.objs.size=none:=I2.hok.fresh (eD _)
 generalize hP:s2.heap.push {cls:=.type "list",dict:=none,data:=.seq ([]:List Value).toArray}=h3 at hns₁ hsb₁ I3 ⊢
 generalize hD:s2.heap.objs.size=D at hD0 I3 ⊢
 have hsz3:h3.objs.size=D+1:=by rw[←hP,rk,hD]
 have old3:∀b o,s2.heap.get? b=some o→h3.get? b=some o:=fun b o e=>by rw[←hP];exact eT _ e
 have old:∀b o,h3.get? b=some o→h₁.get? b=some o:=fun b o e=>hsb₁.extBut b o (eU (eI e)) (eT _ e)
 have fpD:∀b∈fp,b < D:=fun b hb=>by
  obtain⟨o,e,_⟩:=T.obj _ _ st2 b hb
  rw[←hD];exact eI e
 have frD:∀b∈fp,(upd H2 D (.lst [])) b=none:=fun b hb=>by rw[aF (eU (fpD b hb))];exact(f2 b hb).1
 have f3:∀b∈fp,ki X pins (upd H2 D (.lst [])) b:=fun b hb=>⟨frD b hb,(f2 b hb).2⟩
 have Hfresh:∀a,h3.objs.size≤a→(upd H2 D (.lst [])) a=none:=fun a ha=>I3.hok.fresh ha
 have cellC:∀x c,X.env.cells.lookup x=some c→c < h3.objs.size:=fun x c e=>by
  obtain⟨v,q⟩:=I3.cell x c e
  exact q.lt
 have YOk:(X.comp sc cl N h3.objs.size {s2 with heap:=h3} (upd H2 D (.lst [])) fp).Ok:=by
  refine⟨I3.ok.mod,?_,I3.ok.glob,I3.ok.blt,eD _,fun x y c e1 e2=>I3.ok.inj x y c (K.same x c e1) (K.same y c e2),fun x hx=>K.has x hx,fun x c hf _=>absurd hf (by intro z;cases z),I3.ok.hd,I3.ok.frames,.inl rfl,fun b hb=>⟨?_,fun x c e=>(f2 b hb).2.2.2.2.1 x c (K.same x c e)⟩,
   I3.bs,lL I3.ok.bsz I3.sz,fun b o e hb=>?_,fun b hb hm=>?_,I3.stack,I3.stkFree,I3.tab⟩
  ·rw[←K.rel];exact K.kind
  ·exact eU (by rw[hsz3];exact Zb (fpD b hb))
  ·rcases(f2 b hb).2.2.2.1 with z |z
   ·exact I3.ok.noex b o e z
   ·exact absurd (kT (eI (I3.ok.bs b o e).1) z) (Nat.lt_irrefl _)
  ·rcases Zai.mp (I3.stkSub b hm)with z |z
   ·exact(f2 b hb).2.1 z
   ·exact(f2 b hb).2.2.1 z
 have IY:Inv (X.comp sc cl N h3.objs.size {s2 with heap:=h3} (upd H2 D (.lst [])) fp) [] (slots js σ) (upd H2 D (.lst [])) {s2 with heap:=h₁,toks:=s2.toks+([]:List (Str×Value)).length}:=by
  refine⟨YOk,rfl,I3.bare,Un.kept old,⟨_,hns₁,fun i x v e1 e2 e3=>?_⟩,fun x c e=>?_,Hfresh _ (eD _),fun x c e=>I3.freeC x c (K.same x c e),fun p hp=>absurd (show p∈([]:List (Addr×Obj))from hp) (by simp),I3.hok.kept old,?_⟩
  ·unfold slots at e2
   rw[wT]at e2
   cases ej:js[i]? with
   |none=>rw[ej]at e2;cases e2
   |some jo=>
    rw[ej]at e2
    cases jo with
    |none=>cases e2
    |some j=>
     obtain⟨y,n1,n2,k1,k2⟩:=K.from_ i j ej
     have exy:y=x:=Option.some.inj (n1.symm.trans e1)
     subst exy
     have e2':(σ[j]?).join=some v:=Option.some.inj e2
     have e4:σ[j]? =some (some v):=by
      cases es:σ[j]? with
      |none=>rw[es]at e2';cases e2'
      |some w=>rw[es]at e2';exact congrArg some e2'
     obtain⟨m,_,hl⟩:=I3.loc
     obtain⟨u,ru,lk⟩:=hl j y v n2 e4 (by
      rcases k2 with z |z
      ·exact .inr (.inl z)
      ·exact .inr (.inr z))
     refine⟨u,ru,.inr ⟨k1,?_⟩⟩
     obtain⟨c,hcl⟩:=K.has y k1
     refine⟨c,hcl,?_⟩
     rcases lk with⟨z,_⟩ |⟨_,c',e5,ic⟩
     ·rcases k2 with q |q
      ·rw[q]at z;cases z
      ·rw[q]at z;cases z
     ·have:c'=c:=Option.some.inj (e5.symm.trans (K.same y c hcl))
      subst this
      obtain⟨o,ho,hd⟩:=ic
      exact⟨o,old _ _ ho,hd⟩
  ·obtain⟨v,o,ho,hd⟩:=I3.cell x c (K.same x c e)
   exact⟨v,o,old _ _ ho,hd⟩
  ·unfold slots;rw[fw];exact K.len
 generalize hC:h3.objs.size=C at hns₁ hsb₁ Hfresh cellC YOk IY ⊢
 have hCz:C=h3.objs.size:=hC.symm
 have B2:Same B' H2:=fr1.bf.trans fr1.fh
 have fr0:=(rH fr1 js).newl (ds:=[]) .nil hD0
 have nCs:C∉gb X.stack:=fun z=>by
  rcases Zai.mp (I3.stkSub C z)with q |q
  ·exact absurd I3.lt (by rw[q]at hCz;rw[hCz];exact Nat.lt_irrefl _)
  ·exact I3.nofs (Nat.le_of_eq hCz.symm) q
 -- how a refusal leaves the block
 have leave:∀e s',Hl X (X.comp sc cl N C {s2 with heap:=h3} (upd H2 D (.lst [])) fp) n H2 e s'→notedBy (model X.prog X.w) X.A (X.comp sc cl N C {s2 with heap:=h3} (upd H2 D (.lst [])) fp).env (fun x s'=>FQ (model X.prog X.w) X.A X.xe (X.comp sc cl N C {s2 with heap:=h3} (upd H2 D (.lst [])) fp).env (.error x) s') e s':=by
  rintro e s' ⟨pp,σ',Cc,H',ea,H5,s5,a0,Bb,rfl,ns,g2,I5,os,bare,fl,hok,u⟩
  unfold notedBy
  rw[CZ (a:=(X.comp sc cl N C {s2 with heap:=h3} (upd H2 D (.lst [])) fp).env) (b:=X.env) rfl]
  refine jW (outer:=X.outer) (by rw[I3.ok.frames,hst]) hfr (hst▸fl) fun h6 x1 x2=>?_
  have u6:=u.on fl.2.2.1 x2
  have I5f:H5 C=none:=I5.free
  obtain⟨mC,oC,es,ep,hoC,hdC,hrC⟩:=(show ∃m,s5.heap.Ns C m from let ⟨m,a,_⟩:=I5.loc;⟨m,a⟩)
  have bC:=u.keep C oC hoC I5f nCs
  refine⟨mC,⟨oC,es,ep,x1.1 C oC bC,hdC,hrC⟩,fun h7 m7 hn7 hs7=>?_⟩
  obtain⟨o7,es7,ep7,ho7,hd7,hr7⟩:=hn7
  have nf:o7.isFreed=false:=(Heap.get?_some_iff.mp ho7).2
  have hh7:=HeldC.swap (hst▸x1) hs7 bC (fun vs z=>by rw[hdC]at z;cases z) ho7 nf
  refine yH (base:=Bb.update C fun _=>o7) (l:=X.stack) hfr hh7 fun h8 y1 y2=>?_
  have IX:Inv X pins σ H5 s5:=I3.call' (ch:=fp) I5.os I5.base I5.hok I5.bare fun b hb=>⟨(f3 b hb).2.2.2.1,(f3 b hb).2.1,(f3 b hb).2.2.2.2.1,(f3 b hb).2.2.2.2.2⟩
  have IX':Inv X pins σ H5 {s5 with heap:=s5.heap.update C fun _=>o7,toks:=s5.toks}:=IX.turned (it:=C) (fun b o hb e=>by rw[zF _ _ (Ne.symm hb)];exact e) I5f (by rw[hCz];exact Ne.symm (eU I3.lt)) (.inr (by rw[hCz];exact I3.sz)) (fun x c e=>eU (hCz▸cellC x c e)) (fun p hp=>by rw[hCz];exact eU (eI (I3.pin p hp).1))
  refine k Cc H' ns ⟨_,_,(fr1.base hB).grow g2⟩ H5 _ ea _ a0 _ IX' os bare y1 (HOk.swap (o:=oC) hok (u.free C oC hoC I5f)) ?_
  exact(UnB.swap u6 nCs I5f hoC bC nf fun b hb=>hs7.2 b hb).on hh7.2.2.1 y2
 have loop:∀s₃:Shared,s₃={s2 with heap:=h₁,toks:=s2.toks+([]:List (Str×Value)).length}→
   codeAny (model X.prog X.w) X.A (.compLoop (.ListComp elt [⟨target,iter,[],0⟩] scope pos) 0 (.ref it) (.ref D) (X.comp sc cl N C {s2 with heap:=h3} (upd H2 D (.lst [])) fp).env)
    (FQ (model X.prog X.w) X.A X.xe (X.comp sc cl N C {s2 with heap:=h3} (upd H2 D (.lst [])) fp).env) s₃:=by
  rintro s₃ rfl
  refine AZ (fun nn s'=>∃i σ' H',Inv (X.comp sc cl N C {s2 with heap:=h3} (upd H2 D (.lst [])) fp) [] σ' H' s'∧tn i s'.heap∧(∀b∈fp,H' b=none)∧nn=ds.length - i∧i≤ds.length∧∃Ei acc,acc.length=i∧gn tg el re (ds.drop i) Ei=some n∧Frm X.K H2 σ' H' Ei [.ref D] [.ow acc]) ?_ ds.length
   ⟨0,_,_,IY,T.keep _ _ _ st2 (fun b hb o e=>old b o (old3 b o e)),frD,rfl,zz9 _,_,[],rfl,by simpa using e2,⟨_,_,fr0⟩⟩
  rintro nn s4 ⟨i,σ4,H4,I4,st4,fr4,rfl,hil,Ei,acc,ha,ei,F',A',fri⟩
  have ff:∀{H':Hp},(∀b∈fp,H' b=none)→∀b∈fp,ki (X.comp sc cl N C {s2 with heap:=h3} (upd H2 D (.lst [])) fp) [] H' b:=fun hn b hb=>
   ⟨hn b hb,(YOk.exf b hb).1,YOk.exfs b hb,.inl hb,(YOk.exf b hb).2,fun p hp=>absurd (show p∈([]:List (Addr×Obj))from hp) (by simp)⟩
  have hg:=hgg C {s2 with heap:=h3} (upd H2 D (.lst [])) fp
  have he:=hee C {s2 with heap:=h3} (upd H2 D (.lst [])) fp
  obtain⟨go,stop⟩:=ok i B2 fri
  by_cases hlt:i < ds.length
  case neg=>
   have e0:i=ds.length:=by omega
   rw[e0,List.drop_length]at ei
   cases ei
  obtain⟨d,ed⟩:∃d,ds[i]? =some d:=⟨ds[i],oU hlt⟩
  obtain⟨g1,yl⟩:=go d ed
  have edr:ds.drop i=d::ds.drop (i+1):=by
   rw[List.drop_eq_getElem_cons hlt]
   congr 1
   exact Option.some.inj ((oU hlt).symm.trans ed)
  rw[edr]at ei
  obtain⟨E3,e3,ei⟩:=Za.mp ei
  refine ce (T.item (X.comp sc cl N C {s2 with heap:=h3} (upd H2 D (.lst [])) fp) rfl rfl rfl hc i [] s4 σ4 H4 _ I4 (ff fr4) st4 g1) fun r s5 ⟨u,hr,h5⟩=>?_
  subst hr
  refine ce h5 fun _ s6 ⟨x,H6,I6,r6,y6,st6,fr6⟩=>?_
  have I6':=I6.pinned (ff fr6) (T.obj _ _ st6)
  refine ce (hg _ s6 σ4 H6 x u (fun σ7 H7=>Frm X.K H2 σ7 H7 E3 [.ref D] [.ow acc]) I6' r6 ⟨H2,Ei,[.ref D],[.ow acc],d,E3,yl x H6 y6,(fun s hs=>by rw[Zac.mp hs];rfl),e3,fun σ3 H3 f3=>f3⟩) fun _ s7 ⟨σ7,H7,I7,F7,A7,fr7⟩=>?_
  split at ei
  ·rename_i x7 ex7
   cases ei
   obtain⟨A8,fr8⟩:=fr7.pop
   refine zz2 (hre C {s2 with heap:=h3} (upd H2 D (.lst [])) fp (Hl X (X.comp sc cl N C {s2 with heap:=h3} (upd H2 D (.lst [])) fp) x7.1 H2) _ s7 σ7 H7 H2 E3 x7.1 x7.2 (I7.wish _) ⟨F7,A8,fr8⟩ ex7 fun pp hp σ' Cc H' ns ⟨F9,A9,fr9⟩=>⟨?_,fun z=>nomatch z⟩) (fun _ _ z=>z.elim) fun e s' z=>leave e s' z
   exact fun H5 s5 ea s' a0 Bb I5 os bare fl hok u=>⟨pp,σ',Cc,H',ea,H5,s5,a0,Bb,rfl,ns,fr9.bf.trans fr9.fh,I5.unwish,os,bare,fl,hok,u⟩
  ·have back:∀{σ7:L2.St} {H7:Hp} {s7:Shared},Inv (X.comp sc cl N C {s2 with heap:=h3} (upd H2 D (.lst [])) fp) ([]++kj fp s6.heap) σ7 H7 s7→
     Inv (X.comp sc cl N C {s2 with heap:=h3} (upd H2 D (.lst [])) fp) [] σ7 H7 s7∧tn (i+1) s7.heap∧∀b∈fp,H7 b=none:=fun {σ7 H7 s7} I7=>
    ⟨I7.unpinned,T.keep _ _ _ st6 fun b hb o e=>(I7.pin (b,o) (kf _ (kf _ (dD hb e)))).1,fun b hb=>by
     obtain⟨o,e,d⟩:=T.obj _ _ st6 b hb
     exact(I7.pin (b,o) (kf _ (kf _ (dD hb e)))).2.1⟩
   obtain⟨⟨s5',E5⟩,e5,ei⟩:=Za.mp ei
   obtain⟨⟨d6,E6⟩,e6,ei⟩:=Za.mp ei
   have clm:Calm [Sl.ow acc]:=Calm.cons (fun s hs=>absurd hs (by simp)) rfl
   refine zz2 (he _ s7 σ7 H7 (fun y H9=>Frm X.K H2 σ7 H9 E5 (y::[.ref D]) (s5'::[.ow acc])) I7 ⟨H2,E3,[.ref D],[.ow acc],s5',E5,⟨F7,A7,fr7⟩,fun _=>clm,e5,fun v H' f=>f⟩) (fun yv s9 ⟨y,H9,I9,r9,F9,A9,fr9⟩=>?_) fun _ _ z=>z.elim
   obtain⟨FA,AA,frA⟩:=fr9.frz0 e6
   obtain⟨v',C1,ev,rfl,w,ew,ry⟩:=frA.ext (k:=0) rfl
   cases ev;cases ew
   obtain⟨AB,frB⟩:=frA.pop
   obtain⟨bf,fh,tf,sl,nd,frn,len,pl⟩:=frB
   generalize hT:List.map some [V.ref D]++σ7=TT at sl
   generalize hS:[Sl.ow acc]++E6=SS at sl
   cases sl with
   |nil=>cases hS
   |cons q0 r0=>
    injection hT with h1 hT
    injection hS with h2 hS
    subst h1 h2 hT hS
    obtain⟨l',us,el',rfl,hl5,ru⟩:=q0
    cases el'
    have lu:=ru.len
    refine ce (jL _ s9 σ7 H9 (.ref D) [y] (.ref D) [yv] (fun v H'=>v=.non∧H'=upd H9 D (.lst (us++[y]))) I9 rfl (.cons r9 .nil) ⟨D,us,y,rfl,rfl,hl5,v_ (by omega),rfl,rfl⟩) fun _ sA ⟨_,HA,IA,_,_,eA⟩=>?_
    subst eA
    obtain⟨J1,J2,J3⟩:=back IA
    refine⟨ds.length - (i+1),by omega,i+1,σ7,_,J1,J2,J3,rfl,hlt,E6,acc++[d6],by simp[ha],ei,FA,_,bf,fun b o qb=>?_,?_,.cons (A:=[D]) ⟨D,us++[y],rfl,rfl,upd_same,ru.snoc ry⟩ (r0.mono fun o s C hs hC qq=>qq.stay (Same.refl _) (fun b hb=>aF fun z=>?_) fun z=>?_),nd,frn,rfl,pl⟩
    ·have lF:FA D=none:=frn D (by simp)
     rw[aF (fun z=>by rw[z,lF]at qb;cases qb)]
     exact fh _ _ qb
    ·rw[nE hl5];exact tf
    ·have:=hC b hb
     rw[z]at this
     exact(List.nodup_cons.mp nd).1 this
    ·have:=pl s hs
     cases s <;> simp[Sl.isAl,Sl.isBr]at this z
 rw[K.rel]
 exact codeAny_compStart_list (loop _ rfl) (T.self _ 0 _ _ _ (T.keep _ _ _ st2 (fun b hb o e=>old b o (old3 b o e))) (loop _ rfl))
theorem C3(K:CompOk X scope sc cl N js)(hst:X.stack=X.env::X.outer)(hfr:X.env.frame=some X.env.locals)(hc:X.calm=true)(hi:IX X.nox target iter m it)(hgg:∀C s₀ H₀ fp,GX (X.comp sc cl N C s₀ H₀ fp) target tg)(hee:∀C s₀ H₀ fp,EX (X.comp sc cl N C s₀ H₀ fp) elt m3 el)(hre:∀C s₀ H₀ fp W,RE ((X.comp sc cl N C s₀ H₀ fp).wish W) false elt re)
  (hs:∀x,foldedSetIterable iter X.env x=pure x:=by intro _;rfl):RE X true (.ListComp elt [⟨target,iter,[],0⟩] scope pos) (sC js it tg el re):=fun pins s σ H B E n E' I fr er k=>by
 rw[eval_ListComp]
 exact A_ (use:=none) K hst hfr hc hi hgg hee hre hs I fr er fun C H' ns f=>(k pins (fun _=>rfl) σ C H' ns f).2 rfl
theorem C4{ifs:List Expr}{al:Bool}(K:CompOk X scope sc cl N js)(h:RE X al iter re)(hs:∀x,foldedSetIterable iter X.env x=pure x:=by intro _;rfl):RE X al (.ListComp elt [⟨target,iter,ifs,0⟩] scope pos) re:=fun pins s σ H B E n E' I fr er k=>by
 rw[eval_ListComp]
 exact sy (use:=none) rfl hs K.clos K.kind K.names (zz2 (h pins s σ H B E n E' I fr er k) (fun _ _ z=>z.elim) fun _ _ z=>z)
end
end PL
namespace NhSG
set_option autoImplicit false
open PySem PyProof PyProof.Rows PySem.W
abbrev Ky:=Int×List Nat
def fY(a b:Ky):Bool:=decide (a.1 < b.1)||(decide (a.1=b.1)&&decide (a.2 < b.2))
theorem ltKy_iff{a b:Ky}:fY a b=true↔a.1 < b.1∨(a.1=b.1∧a.2 < b.2):=by simp[fY]
theorem qG{a b:Ky}:fY a b=false↔¬(a.1 < b.1∨(a.1=b.1∧a.2 < b.2)):=by rw[←ltKy_iff];simp
def o0(hp:Heap):Value→Option Ky
 |.ref a=>(hp.get? a).bind fun o=>match o.data with
  |.seq xs _=>match xs.toList with
   |[.int n _,.str z _]=>some (n,z.cps.toList)
   |_=>none
  |_=>none
 |_=>none
theorem C5{hp:Heap}{xs:Array Value}{n:Int}{t u:Tok}(ho:hp.get? a=some o)(hd:o.data=.seq xs k)(hx:xs.toList=[.int n t,.str z u]):o0 hp (.ref a)=some (n,z.cps.toList):=by
 simp[o0,ho,hd,hx]
theorem wv{hp:Heap}{v:Value}{y:Ky}(h:o0 hp v=some y):∃a o xs k t z u,v=.ref a∧hp.get? a=some o∧o.data=.seq xs k∧xs.toList=[.int y.1 t,.str z u]∧y.2=z.cps.toList:=by
 unfold o0 at h
 split at h
 ·rename_i a
  obtain⟨o,ho,h⟩:=Za.mp h
  split at h
  ·rename_i xs k hd
   split at h
   ·rename_i n t z u hx
    cases h
    exact⟨a,o,xs,k,t,z,u,rfl,ho,hd,hx,rfl⟩
   ·cases h
  ·cases h
 ·cases h
@[reducible] def fk (hp:Heap):PyProof.Rows.KeyKind where
 α:=Ky
 blt:=fY
 irrefl a:=by
  rw[qG]
  rintro(h |h)
  ·omega
  ·exact List.lt_irrefl _ h.2
 trans a b c h1 h2:=by
  rw[ltKy_iff]at *
  rcases h1 with h1 |h1
  ·rcases h2 with h2 |h2
   ·exact .inl (by omega)
   ·exact .inl (by omega)
  ·rcases h2 with h2 |h2
   ·exact .inl (by omega)
   ·exact .inr ⟨by omega,List.lt_trans h1.2 h2.2⟩
 negTrans a b c h:=by
  rw[ltKy_iff]at *
  rw[ltKy_iff]
  by_cases hab:a.1 < b.1
  ·exact .inl (.inl hab)
  ·by_cases hbc:b.1 < c.1
   ·exact .inr (.inl hbc)
   ·have e:a.1=c.1∧a.2 < c.2:=by
     rcases h with h |h
     ·omega
     ·exact h
    by_cases hab2:a.2 < b.2
    ·exact .inl (.inr ⟨by omega,hab2⟩)
    ·exact .inr (.inr ⟨by omega,List.lt_of_le_of_lt (List.not_lt.mp hab2) e.2⟩)
 total a b h1 h2:=by
  rw[qG]at *
  have e:a.1=b.1:=by
   have n1:¬a.1 < b.1:=fun z=>h1 (.inl z)
   have n2:¬b.1 < a.1:=fun z=>h2 (.inl z)
   omega
  have e2:a.2=b.2:=List.le_antisymm (List.not_lt.mp fun z=>h2 (.inr ⟨e.symm,z⟩)) (List.not_lt.mp fun z=>h1 (.inr ⟨e,z⟩))
  exact Prod.ext e e2
 keyOf:=o0 hp
 dflt:=(0,[])
def JI(prog:Program)(w:World)(A:Around)(κ:PyProof.Rows.KeyKind)(kd:SortKind)(s:Shared):Prop:=
 ∀(E:Value→Shared→Prop) (x y:Value) (a b:κ.α) {Q:Bool→Shared→Prop},κ.keyOf x=some a→κ.keyOf y=some b→Q (κ.blt a b) s→wpAny (model prog w) A (keyLt' kd x y) Q E s
theorem C6{prog:Program}{w:World}{A:Around}{s:Shared}:JI prog w A (fk s.heap) (tuples' true) s:=fun E x y a b Q ha hb hq=>by
 obtain⟨ax,ox,xs,kx,tx,zx,ux,rfl,hox,hdx,hxx,ea⟩:=wv ha
 obtain⟨ay,oy,ys,ky,ty,zy,uy,rfl,hoy,hdy,hyy,eb⟩:=wv hb
 refine kat_lt hox hdx hoy hdy ?_
 have fin:decide (xs.size < ys.size)=false:=by
  have l1:xs.size=2:=by rw[←Array.length_toList,hxx];rfl
  have l2:ys.size=2:=by rw[←Array.length_toList,hyy];rfl
  rw[l1,l2]
  rfl
 rw[hxx,hyy,fin]
 show KatLex prog w A true false Q [(.int a.1 tx,.int b.1 ty),(.str zx ux,.str zy uy)] 0 s
 refine kat_cons (wpAny_eqBool_int (kat_go (fun e1=>kat_yes (kat_cons (wpAny_eqBool_str (kat_go (fun e2=>kat_yes (kat_nil ?_)) (fun e2=>kat_no ?_))))) (fun e1=>kat_no ?_)))
 ·have e1:a.1=b.1:=by simpa using e1
  have e2:zx=zy:=by simpa using e2
  have:fY a b=false:=by
   rw[qG,ea,eb,e2]
   rintro(z |z)
   ·omega
   ·exact List.lt_irrefl _ z.2
  rw[←this]
  exact hq
 ·have e1:a.1=b.1:=by simpa using e1
  show wpAny (model prog w) A (oneLt' false (.str zx ux) (.str zy uy)) Q _ s
  refine kat_one _ _ (PySem.P.lt_str ?_)
  have:fY a b=decide (zx.cps.toList < zy.cps.toList):=by
   unfold fY
   rw[←ea,←eb]
   simp[e1]
  have hq':Q (fY a b) s:=hq
  rw[this]at hq'
  exact hq'
 ·have e1:¬a.1=b.1:=by simpa using e1
  show wpAny (model prog w) A (oneLt' true (.int a.1 tx) (.int b.1 ty)) Q _ s
  refine oneLt_int ?_
  have:fY a b=decide (a.1 < b.1):=by
   unfold fY
   simp[e1]
  have hq':Q (fY a b) s:=hq
  rw[this]at hq'
  exact hq'
end NhSG
namespace NhLS
set_option autoImplicit false
open PySem PyProof.Rows
def Hm:Keyed:=(Value.none,Value.none)
def at'(a:Array Keyed)(i:Nat):Keyed:=a.getD i Hm
theorem Hn{a:Array Keyed}{i:Nat}(h:i < a.size):a[i]? =some (at' a i):=by simp[at',Array.getD,h]
structure Cmp (prog:Program) (w:World) (A:Around) (s:Shared) (κ:SortKind) (O:KeyOrd) (key:Keyed→O.α) (dom:Keyed→Prop):Prop where
 ask:∀(E:Value→Shared→Prop) (x y:Keyed) (Q:Bool→Shared→Prop),dom x→dom y→Q (O.blt (key x) (key y)) s→wpAny (model prog w) A (keyLt' κ x.1 y.1) Q E s
section
variable {prog:Program} {w:World} {A:Around} {E:Value→Shared→Prop} {s:Shared} {κ:SortKind} {O:KeyOrd} {key:Keyed→O.α} {dom:Keyed→Prop} {st:SortSt}
theorem IS(C:Cmp prog w A s κ O key dom){x y:Keyed}{Q:Option Bool→SortSt→Prop}(hk:kindOf st=κ)(dx:dom x)(dy:dom y)(h:Q (some (O.blt (key x) (key y))) st):wpS (model prog w) A E s (lt' x y) Q st:=by
 rw[lt'_eq]
 refine wpS_bind (wpS_get ?_)
 rw[hk]
 refine wpS_bind (wpS_lift (wpAny_attempt (C.ask _ _ _ _ dx dy ⟨rfl,?_⟩)))
 exact wpS_pure h
theorem Ho{arr:Array Keyed}{i:Nat}{Q:Keyed→SortSt→Prop}(hi:i < arr.size)(h:Q (at' arr i) st):wpS (model prog w) A E s (elem' arr i) Q st:=by
 rw[elem'_eq,Hn hi]
 exact wpS_pure h
end
end NhLS
namespace NhLS
set_option autoImplicit false
open PySem PyProof.Rows
def Le(O:KeyOrd)(key:Keyed→O.α)(x y:Keyed):Prop:=O.blt (key y) (key x)=false
section
variable {O:KeyOrd} {key:Keyed→O.α} {a b:Array Keyed} {T:List Keyed} {out:Array Keyed} {i j ia ib k:Nat} {x y z:Keyed}
theorem Le.refl(x:Keyed):Le O key x x:=O.irrefl _
theorem Le.trans(h1:Le O key x y)(h2:Le O key y z):Le O key x z:=KeyOrd.kle_trans (O:=O) (a:=key x) (b:=key y) (c:=key z) h1 h2
theorem Le.of(h:O.blt (key x) (key y)=true):Le O key x y:=KeyOrd.klt_asymm (O:=O) h
theorem FR(h:i < a.toList.length):a.toList[i]=at' a i:=by
 have h':i < a.size:=by simpa using h
 simp[at',Array.getD,h']
theorem Ba(h:i < a.size):at' a i∈a.toList:=by
 rw[←FR (by simpa using h)]
 exact List.getElem_mem _
end
def SS(st st':SortSt):Prop:=∃g,st'=SortSt.mk' (kindOf st) (arrOf st) (pendingOf st) g (failedOf st)
section
variable {prog:Program} {w:World} {A:Around} {E:Value→Shared→Prop} {s:Shared} {κ:SortKind} {O:KeyOrd} {key:Keyed→O.α} {dom:Keyed→Prop} {st:SortSt}
theorem C7{c:Prop}[Decidable c]{x y:StateT SortSt Sem α}{Q:α→SortSt→Prop}(hc:c)(h:wpS (model prog w) A E s x Q st):wpS (model prog w) A E s (if c then x else y) Q st:=by rw[if_pos hc];exact h
theorem ww{c:Prop}[Decidable c]{x y:StateT SortSt Sem α}{Q:α→SortSt→Prop}(hc:¬c)(h:wpS (model prog w) A E s y Q st):wpS (model prog w) A E s (if c then x else y) Q st:=by rw[if_neg hc];exact h
theorem IT{m:StateT SortSt Sem α}{Q:α→SortSt→Prop}(h:∀R,R=Q→wpS (model prog w) A E s m R st):wpS (model prog w) A E s m Q st:=h Q rfl
end
end NhLS
namespace NhLS
set_option autoImplicit false
open PySem PyProof.Rows
section
variable {prog:Program} {w:World} {A:Around} {E:Value→Shared→Prop} {s:Shared} {κ:SortKind} {O:KeyOrd} {key:Keyed→O.α} {dom:Keyed→Prop} {st:SortSt}
theorem ku{c:Prop}[Decidable c]{x y:StateT SortSt Sem α}{Q:α→SortSt→Prop}(h1:c→wpS (model prog w) A E s x Q st)(h2:¬c→wpS (model prog w) A E s y Q st):wpS (model prog w) A E s (if c then x else y) Q st:=by
 split
 ·rename_i z;exact h1 z
 ·rename_i z;exact h2 z
end
end NhLS
namespace NhLS
set_option autoImplicit false
open PySem PyProof.Rows
def So(O:KeyOrd)(key:Keyed→O.α)(a:Array Keyed)(lo hi:Nat):Prop:=∀i j,lo≤i→i < j→j < hi→Le O key (at' a i) (at' a j)
section
variable {O:KeyOrd} {key:Keyed→O.α} {a b:Array Keyed} {i j lo hi p:Nat} {x y z:Keyed}
theorem So.le(h:So O key a lo hi)(h1:lo≤i)(h2:i≤j)(h3:j < hi):Le O key (at' a i) (at' a j):=by
 by_cases e:i=j
 ·rw[e];exact Le.refl _
 ·exact h i j h1 (by exact zzB ‹_› ‹_›) h3
end
end NhLS
namespace NhLS
set_option autoImplicit false
open PySem PyProof.Rows
structure Sx (a b:Array Keyed) (lo hi:Nat):Prop where
 perm:b.toList.Perm a.toList
 out:∀j,j < lo∨hi≤j→at' b j=at' a j
def Dn(O:KeyOrd)(key:Keyed→O.α)(a:Array Keyed)(lo hi:Nat):Prop:=∀i j,lo≤i→i < j→j < hi→Le O key (at' a j) (at' a i)
def Eqs(O:KeyOrd)(key:Keyed→O.α)(a:Array Keyed)(e q:Nat):Prop:=∀i,e - (q+1)≤i→i < e→Le O key (at' a i) (at' a (e - 1))∧Le O key (at' a (e - 1)) (at' a i)
section
variable {O:KeyOrd} {key:Keyed→O.α} {a b c:Array Keyed} {i j k lo hi n q:Nat}
theorem Sx.refl:Sx a a lo hi:=⟨List.Perm.refl _,fun _ _=>rfl⟩
theorem Sx.trans(h1:Sx a b lo hi)(h2:Sx b c lo hi):Sx a c lo hi:=⟨h2.perm.trans h1.perm,fun j hj=>(h2.out j hj).trans (h1.out j hj)⟩
theorem Sx.size(h:Sx a b lo hi):b.size=a.size:=by have:=h.perm.length_eq;simpa using this
theorem Sx.dom{dom:Keyed→Prop}(h:Sx a b lo hi)(da:∀x∈a.toList,dom x):∀x∈b.toList,dom x:=fun x hx=>da x (h.perm.mem_iff.mp hx)
theorem C8(a:Array Keyed)(i:Nat):at' a i=(a[i]?).getD Hm:=Array.getD_eq_getD_getElem? ..
theorem iq(hj:j≤a.size)(k:Nat):at' (mirror a i j ((j - i) / 2)) k=if i≤k∧k < j then at' a (i+j - 1 - k)else at' a k:=by
 rw[C8,getElem?_mirror_all hj]
 split <;> rw[C8]
theorem uS(hk:k < a.size)(hd:n≤k)(i:Nat):at' (bubble a k n) i=if i=k - n then at' a k else if k - n < i∧i≤k then at' a (i - 1)else at' a i:=by
 rw[C8,getElem?_bubble hk n hd]
 repeat' split
 all_goals rw[C8]
theorem Sx.rev(h1:lo≤i)(h2:j≤hi)(h3:j≤a.size):Sx a (mirror a i j ((j - i) / 2)) lo hi:=
 ⟨Array.perm_iff_toList_perm.mp (mirror_perm _ _ _ _),fun k hk=>by rw[iq h3,if_neg (by lia)]⟩
theorem Sx.bub(h1:k < a.size)(h0:n≤k)(h2:lo≤k - n)(h3:k < hi):Sx a (bubble a k n) lo hi:=
 ⟨Array.perm_iff_toList_perm.mp (bubble_perm _ _ _),fun j hj=>by rw[uS h1 h0,if_neg (by lia),if_neg (by lia)]⟩
theorem So.step(h:So O key a lo hi)(hl:lo < hi)(e:Le O key (at' a (hi - 1)) (at' a hi)):So O key a lo (hi+1):=fun i j h1 h2 h3=>by
 by_cases c:j < hi
 ·exact h i j h1 h2 c
 ·rw[show j=hi by lia]
  exact(h.le h1 (by lia) (by lia):Le O key (at' a i) (at' a (hi - 1))).trans e
theorem Dn.le(h:Dn O key a lo hi)(h1:lo≤i)(h2:i≤j)(h3:j < hi):Le O key (at' a j) (at' a i):=by
 by_cases e:i=j
 ·rw[e];exact Le.refl _
 ·exact h i j h1 (by exact zzB ‹_› ‹_›) h3
theorem Dn.step(h:Dn O key a lo hi)(hl:lo < hi)(e:Le O key (at' a hi) (at' a (hi - 1))):Dn O key a lo (hi+1):=fun i j h1 h2 h3=>by
 by_cases c:j < hi
 ·exact h i j h1 h2 c
 ·rw[show j=hi by lia]
  exact Le.trans e (h.le h1 (by lia) (by lia))
theorem Dn.rev(h:Dn O key a lo hi)(e:Eqs O key a hi q)(hz:hi≤a.size)(hq:lo+(q+1)≤hi):Dn O key (mirror a (hi - (q+1)) hi ((hi - (hi - (q+1))) / 2)) lo hi:=fun i j h1 h2 h3=>by
 rw[iq hz,iq hz]
 by_cases c:hi - (q+1)≤i
 ·rw[if_pos (by lia),if_pos (by lia)]
  exact(e _ (by lia) (by lia)).1.trans (e _ (by lia) (by lia)).2
 ·rw[if_neg (show ¬(hi - (q+1)≤i∧i < hi) by exact fun h=>‹¬_› h.1)]
  by_cases c':hi - (q+1)≤j
  ·rw[if_pos (by exact⟨‹_›,‹_›⟩)]
   exact h _ _ h1 (by lia) (by lia)
  ·rw[if_neg (by exact fun h=>‹¬_› h.1)]
   exact h _ _ h1 h2 h3
theorem Dn.flip(h:Dn O key a lo hi)(hz:hi≤a.size):So O key (mirror a lo hi ((hi - lo) / 2)) lo hi:=fun i j h1 h2 h3=>by
 rw[iq hz,iq hz,if_pos (by lia),if_pos (by lia)]
 exact h _ _ (by lia) (by lia) (by lia)
theorem Eqs.one:Eqs O key a (hi+1) 0:=fun i h1 h2=>by
 rw[show i=hi by lia]
 exact⟨Le.refl _,Le.refl _⟩
end
section
variable {prog:Program} {w:World} {A:Around} {E:Value→Shared→Prop} {s:Shared} {κ:SortKind} {O:KeyOrd} {key:Keyed→O.α} {dom:Keyed→Prop} {a:Array Keyed} {pd:Array (Nat×Nat×Nat)} {g:Nat}
theorem lZ(C:Cmp prog w A s κ O key dom){i:Nat}{Q:Option Bool→SortSt→Prop}(da:∀x∈a.toList,dom x)(hi:i < a.size)(hj:j < a.size)(h:Q (some (O.blt (key (at' a i)) (key (at' a j)))) (SortSt.mk' κ a pd g none)):wpS (model prog w) A E s (ltAt' i j) Q (SortSt.mk' κ a pd g none):=
 wpS_bind (wpS_get (wpS_bind (Ho hi (wpS_bind (Ho hj (IS C rfl (da _ (Ba hi)) (da _ (Ba hj)) h))))))
theorem wx{i:Nat}{Q:Unit→SortSt→Prop}(h:Q () (SortSt.mk' κ (mirror a i j ((j - i) / 2)) pd g none)):wpS (model prog w) A E s (reverseSlice' i j) Q (SortSt.mk' κ a pd g none):=wpS_modify h
theorem FS{l:Nat}{Q:Unit→SortSt→Prop}(h:Q () (SortSt.mk' κ (bubble a k (k - l)) pd g none)):wpS (model prog w) A E s (moveDown' k l) Q (SortSt.mk' κ a pd g none):=wpS_modify h
theorem D6{lo n0 nrem:Nat}{body:Nat→Option β×Nat→StateT SortSt Sem (ForInStep (Option β×Nat))}{Q:Option β×Nat→SortSt→Prop}(h1:1≤n0)(h2:n0≤nrem)(hs:So O key a lo (lo+n0))
  (hb:∀x n (R:ForInStep (Option β×Nat)→SortSt→Prop),1≤n→n < nrem→R (if O.blt (key (at' a (lo+n))) (key (at' a (lo+n - 1)))=true then .done (none,n)else .yield (none,n+1)) (SortSt.mk' κ a pd g none)→wpS (model prog w) A E s (body x (none,n)) R (SortSt.mk' κ a pd g none))
  (h:∀n,n0≤n→n≤nrem→So O key a lo (lo+n)→(n < nrem→O.blt (key (at' a (lo+n))) (key (at' a (lo+n - 1)))=true)→Q (none,n) (SortSt.mk' κ a pd g none)):
  wpS (model prog w) A E s (forIn [n0:nrem] (none,n0) body) Q (SortSt.mk' κ a pd g none):=by
 refine wpS_forRange (I:=fun x c st'=>st'=SortSt.mk' κ a pd g none∧c=(none,x)∧n0≤x∧So O key a lo (lo+x)) ?_ ?_ ⟨rfl,rfl,eD _,hs⟩
 ·rintro x c st' q1 q2 ⟨rfl,rfl,q3,q4⟩
  refine hb x x _ (by exact kT ‹_› ‹_›) q2 ?_
  cases e:O.blt (key (at' a (lo+x))) (key (at' a (lo+x - 1)))with
  |true=>exact h x q3 (by exact Nat.le_of_lt ‹_›) q4 fun _=>e
  |false=>exact⟨rfl,rfl,by(solve_by_elim (maxDepth:=3) only[*,lL,kT,zz8,Nat.le_of_lt]),q4.step (by lia) e⟩
 ·rintro c st' ⟨rfl,rfl,q3,q4⟩
  rw[show max n0 nrem=nrem by exact Nat.max_eq_right ‹_›]at q4 ⊢
  exact h nrem h2 (eD _) q4 fun z=>absurd z (Nat.lt_irrefl _)
theorem qH(C:Cmp prog w A s κ O key dom){lo ok:Nat}{Q:Bool→SortSt→Prop}(da:∀x∈a.toList,dom x)(h1:1≤ok)(h2:ok≤n)(hz:lo+n≤a.size)(hs:So O key a lo (lo+ok))
  (h:∀b,Sx a b lo (lo+n)→So O key b lo (lo+n)→Q true (SortSt.mk' κ b pd g none)):wpS (model prog w) A E s (binarySort' lo n ok) Q (SortSt.mk' κ a pd g none):=by
 refine wpS_bind (wpS_mono (wpS_forRange (I:=fun k c st'=>c=(none,())∧∃b,st'=SortSt.mk' κ b pd g none∧Sx a b lo (lo+n)∧So O key b lo (lo+k)) (Q:=fun c st'=>c=(none,())∧∃b,st'=SortSt.mk' κ b pd g none∧Sx a b lo (lo+n)∧So O key b lo (lo+n)) ?s1 ?s2 ⟨rfl,a,rfl,.refl,by rw[show max ok 1=ok by exact Nat.max_eq_left ‹_›];exact hs⟩) ?s3)
 case s3=>
  rintro c st' ⟨rfl,b,rfl,sb,ss⟩
  exact wpS_pure (h b sb ss)
 case s2=>
  rintro c st' ⟨rfl,b,rfl,sb,ss⟩
  rw[show max (max ok 1) n=n by lia]at ss
  exact⟨rfl,b,rfl,sb,ss⟩
 case s1=>
  rintro k c st' k1 k2 ⟨rfl,b,rfl,sb,ss⟩
  have bz:=sb.size
  have ik:lo+k < b.size:=by lia
  refine wpS_bind (wpS_mono (wpS_forRange (I:=fun x c st'=>st'=SortSt.mk' κ b pd g none∧∃l r,c=(none,l,r)∧l≤r∧r≤k∧r+x≤k+l∧(∀i,i < l→Le O key (at' b (lo+i)) (at' b (lo+k)))∧(∀i,r≤i→i < k→Le O key (at' b (lo+k)) (at' b (lo+i))))
   (Q:=fun c st'=>st'=SortSt.mk' κ b pd g none∧∃l,c=(none,l,l)∧l≤k∧(∀i,i < l→Le O key (at' b (lo+i)) (at' b (lo+k)))∧(∀i,l≤i→i < k→Le O key (at' b (lo+k)) (at' b (lo+i)))) ?t1 ?t2 ⟨rfl,0,k,rfl,by exact zz9 _,by exact eD _,by(solve_by_elim (maxDepth:=3) only[*,lL,kT,zz8,Nat.le_of_lt,zzD,zzA,Nat.le_add_right,Nat.lt_of_succ_lt]),fun i hi=>by lia,fun i h1 h2=>by lia⟩) ?t3)
  case t2=>
   rintro c st' ⟨rfl,l,r,rfl,p1,p2,p3,p4,p5⟩
   have:l=r:=by lia
   subst this
   exact⟨rfl,l,rfl,p2,p4,p5⟩
  case t1=>
   rintro x c st' - x2 ⟨rfl,l,r,rfl,p1,p2,p3,p4,p5⟩
   dsimp only
   refine ku (fun z=>?_) (fun z=>?_)
   ·have:l=r:=by exact Nat.le_antisymm ‹_› ‹_›
    subst this
    exact wpS_pure ⟨rfl,l,rfl,p2,p4,p5⟩
   ·have im:lo+(l+r) / 2 < b.size:=by lia
    refine wpS_bind (lZ C (sb.dom da) ik im ?_)
    cases e:O.blt (key (at' b (lo+k))) (key (at' b (lo+(l+r) / 2)))with
    |true=>exact wpS_pure ⟨rfl,l,(l+r) / 2,rfl,by lia,by lia,by lia,p4,fun i r1 r2=>(Le.of e).trans (ss.le (by exact Nat.le_add_right _ _) (by exact zzD ‹_› _) (by exact zzA ‹_› _))⟩
    |false=>exact wpS_pure ⟨rfl,(l+r) / 2+1,r,rfl,by lia,by assumption,by lia,fun i r1=>(ss.le (by exact Nat.le_add_right _ _) (by lia) (by lia):Le O key (at' b (lo+i)) (at' b (lo+(l+r) / 2))).trans e,p5⟩
  case t3=>
   rintro c st' ⟨rfl,l,rfl,p2,p4,p5⟩
   refine wpS_bind (FS (wpS_pure ⟨rfl,_,rfl,sb.trans (Sx.bub (k:=lo+k) (n:=lo+k - (lo+l)) ik (by exact Nat.sub_le _ _) (by lia) (by exact zzA ‹_› _)),fun i j r1 r2 r3=>?_⟩))
   have q4:∀i,lo≤i→i < lo+l→Le O key (at' b i) (at' b (lo+k)):=fun i u1 u2=>by have:=p4 (i - lo) (by exact Nat.sub_lt_left_of_lt_add ‹_› ‹_›);rwa [show lo+(i - lo)=i by exact Nat.add_sub_of_le ‹_›]at this
   have q5:∀i,lo+l≤i→i < lo+k→Le O key (at' b (lo+k)) (at' b i):=fun i u1 u2=>by have:=p5 (i - lo) (by exact Nat.le_sub_of_add_le' ‹_›) (by lia);rwa [show lo+(i - lo)=i by exact Nat.add_sub_of_le (lL (Nat.le_add_right _ _) ‹_›)]at this
   show Le O key (at' (bubble b (lo+k) (lo+k - (lo+l))) i) (at' (bubble b (lo+k) (lo+k - (lo+l))) j)
   rw[uS ik (by exact Nat.sub_le _ _),uS ik (by exact Nat.sub_le _ _),show lo+k - (lo+k - (lo+l))=lo+l by lia]
   repeat' split
   all_goals first
    |(exfalso;lia)
    |exact q4 _ (by assumption) (by(first |exact Nat.lt_of_lt_of_eq ‹_› ‹_› |lia))
    |exact q5 _ (by(first |exact zzD ‹_› _ |lia)) (by lia)
    |exact ss _ _ (by(first |assumption |lia)) (by(first |assumption |lia)) (by lia)
theorem uT(C:Cmp prog w A s κ O key dom){lo nrem:Nat}{Q:Option Nat→SortSt→Prop}(da:∀x∈a.toList,dom x)(h1:1≤nrem)(hz:lo+nrem≤a.size)
  (h:∀m b,1≤m→m≤nrem→Sx a b lo (lo+nrem)→So O key b lo (lo+m)→Q (some m) (SortSt.mk' κ b pd g none)):wpS (model prog w) A E s (countRun' lo nrem) Q (SortSt.mk' κ a pd g none):=by
 refine wpS_bind (D6 (O:=O) (key:=key) (a:=a) (lo:=lo) (n0:=1) (nrem:=nrem) (eD _) h1 (fun i j r1 r2 r3=>by lia) (fun x n R n1 n2 hR=>?_) fun n q1 q2 q3 q4=>?_)
 ·refine wpS_bind (lZ C da (show lo+n < a.size by lia) (show lo+n - 1 < a.size by lia) ?_)
  cases e:O.blt (key (at' a (lo+n))) (key (at' a (lo+n - 1)))with
  |true=>rw[e]at hR;exact wpS_pure hR
  |false=>rw[e]at hR;exact wpS_pure hR
 dsimp -zeta only
 by_cases z:(n == nrem)=true
 ·exact C7 z (wpS_pure (h n a q1 q2 .refl q3))
 refine ww z ?_
 have z':n < nrem:=by simp at z;exact zzB ‹_› ‹_›
 have sn:=q4 z'
 extract_lets
 rename Unit→_=>jp
 have J:∀b,Sx a b lo (lo+nrem)→Dn O key b lo (lo+n+1)→wpS (model prog w) A E s (jp ()) Q (SortSt.mk' κ b pd g none):=by
  intro b sb db
  refine wpS_bind (wpS_lift (wpAny_rule ⟨rfl,?_⟩))
  refine wpS_bind (wpS_mono (wpS_forRange (I:=fun x c st'=>∃b q,st'=SortSt.mk' κ b pd g none∧Sx a b lo (lo+nrem)∧c=(none,x,q)∧q+1≤x∧n+1≤x∧Dn O key b lo (lo+x)∧Eqs O key b (lo+x) q)
   (Q:=fun c st'=>∃b m q,st'=SortSt.mk' κ b pd g none∧Sx a b lo (lo+nrem)∧c=(none,m,q)∧q+1≤m∧m≤nrem∧Dn O key b lo (lo+m)∧Eqs O key b (lo+m) q) ?s1 ?s2 ⟨b,0,rfl,sb,rfl,by exact Zb ‹_›,by exact zzC _,db,Eqs.one⟩) ?s3)
  case s2=>
   rintro c st' ⟨b,q,rfl,sb,rfl,p1,p2,p3,p4⟩
   rw[show max (n+1) nrem=nrem by exact Nat.max_eq_right ‹_›]at *
   exact⟨b,nrem,q,rfl,sb,rfl,p1,eD _,p3,p4⟩
  case s1=>
   rintro x c st' x1 x2 ⟨b,q,rfl,sb,rfl,p1,p2,p3,p4⟩
   have bz:=sb.size
   have i1:lo+x < b.size:=by lia
   have i2:lo+x - 1 < b.size:=by exact zz8 (Nat.sub_le _ _) ‹_›
   refine wpS_bind (lZ C (sb.dom da) i1 i2 ?_)
   cases e:O.blt (key (at' b (lo+x))) (key (at' b (lo+x - 1)))with
   |true=>
    dsimp only
    rw[if_pos rfl]
    refine ku (fun z=>?_) (fun z=>?_)
    ·refine wpS_bind (wx (wpS_pure ⟨_,0,rfl,sb.trans (Sx.rev (by lia) (by lia) (by exact Nat.le_of_lt ‹_›)),rfl,by exact Nat.le_add_left _ _,by exact Zb ‹_›,?_,Eqs.one⟩))
     refine(p3.rev p4 (by exact Nat.le_of_lt ‹_›) (by exact zzA ‹_› _)).step (by lia) ?_
     rw[iq (by exact Nat.le_of_lt ‹_›),iq (by exact Nat.le_of_lt ‹_›),if_neg (by lia),if_pos (by lia)]
     exact(Le.of e).trans (p4 _ (by lia) (by lia)).2
    ·exact wpS_pure ⟨b,0,rfl,sb,rfl,by exact Nat.le_add_left _ _,by exact Zb ‹_›,p3.step (by lia) (Le.of e),Eqs.one⟩
   |false=>
    dsimp only
    rw[if_neg (by simp)]
    refine wpS_bind (lZ C (sb.dom da) i2 i1 ?_)
    cases e':O.blt (key (at' b (lo+x - 1))) (key (at' b (lo+x)))with
    |true=>exact wpS_pure ⟨b,x,q,rfl,sb,rfl,p1,by exact Nat.le_of_lt ‹_›,p3,p4⟩
    |false=>
     refine wpS_pure ⟨b,q+1,rfl,sb,rfl,by exact Nat.succ_lt_succ ‹_›,by exact Zb ‹_›,p3.step (by lia) e',fun i r1 r2=>?_⟩
     show Le O key (at' b i) (at' b (lo+x))∧Le O key (at' b (lo+x)) (at' b i)
     by_cases c:i=lo+x
     ·rw[c];exact⟨Le.refl _,Le.refl _⟩
     ·obtain⟨u1,u2⟩:=p4 i (by lia) (by lia)
      exact⟨u1.trans e,Le.trans e' u2⟩
  case s3=>
   rintro c st' ⟨b,m,q,rfl,sb,rfl,p1,p2,p3,p4⟩
   have bz:=sb.size
   dsimp -zeta only
   extract_lets
   rename Unit→_=>jp2
   have J2:∀b,Sx a b lo (lo+nrem)→Dn O key b lo (lo+m)→wpS (model prog w) A E s (jp2 ()) Q (SortSt.mk' κ b pd g none):=by
    intro b sb db
    have bz:=sb.size
    refine wpS_bind (wx ?_)
    have sc:=sb.trans (Sx.rev (a:=b) (i:=lo) (j:=lo+m) (eD lo) (show lo+m≤lo+nrem by exact zzD ‹_› _) (by lia))
    have cz:=sc.size
    have ss:=db.flip (by lia)
    revert sc cz ss
    generalize mirror b lo (lo+m) ((lo+m - lo) / 2)=c
    intro sc cz ss
    refine wpS_bind (D6 (O:=O) (key:=key) (a:=c) (lo:=lo) (n0:=m) (nrem:=nrem) (by exact lL (Nat.le_add_left _ _) ‹_›) p2 ss (fun x n R n1 n2 hR=>?_) fun n q1 q2 q3 q4=>?_)
    ·refine wpS_bind (lZ C (sc.dom da) (show lo+n < c.size by lia) (show lo+n - 1 < c.size by lia) ?_)
     cases e:O.blt (key (at' c (lo+n))) (key (at' c (lo+n - 1)))with
     |true=>rw[e]at hR;exact wpS_pure hR
     |false=>rw[e]at hR;exact wpS_pure hR
    ·exact wpS_pure (h n c (by lia) q2 sc q3)
   clear_value jp2
   refine ku (fun z=>?_) (fun z=>?_)
   ·exact wpS_bind (wx (J2 _ (sb.trans (Sx.rev (a:=b) (i:=lo+m - (q+1)) (j:=lo+m) (by lia) (by exact zzD ‹_› _) (by lia))) (Dn.rev (hi:=lo+m) (q:=q) p3 p4 (by lia) (by exact zzA ‹_› _))))
   ·exact J2 b sb p3
 clear_value jp
 refine ku (fun c=>?_) (fun c=>?_)
 ·refine wpS_bind (lZ C da (show lo < a.size by lia) (show lo+n - 1 < a.size by lia) ?_)
  cases e:O.blt (key (at' a lo)) (key (at' a (lo+n - 1)))with
  |true=>exact wpS_pure (h n a q1 q2 .refl q3)
  |false=>
   refine wpS_bind (wx (J _ (Sx.rev (eD _) (by exact zzD ‹_› _) (by lia)) fun i j r1 r2 r3=>?_))
   have all:∀x y,lo≤x→x < lo+n→lo≤y→y < lo+n→Le O key (at' a x) (at' a y):=fun x y x1 x2 y1 y2=>
    ((q3.le x1 (by lia) (by lia):Le O key (at' a x) (at' a (lo+n - 1))).trans e).trans (q3.le (eD _) y1 y2)
   rw[iq (by lia),iq (by lia),if_pos (show lo≤i∧i < lo+n by lia)]
   by_cases c':j < lo+n
   ·rw[if_pos (by lia)]
    exact all _ _ (by lia) (by lia) (by lia) (by lia)
   ·rw[if_neg (by exact fun h=>‹¬_› h.2),show j=lo+n by lia]
    exact(Le.of sn).trans (all _ _ (by lia) (by lia) (by lia) (by lia))
 ·refine J a .refl fun i j r1 r2 r3=>?_
  rw[show i=lo+n - 1 by lia,show j=lo+n by lia]
  exact Le.of sn
end
end NhLS
namespace NhLS
set_option autoImplicit false
open PySem PyProof.Rows
section
variable {prog:Program} {w:World} {A:Around} {E:Value→Shared→Prop} {s:Shared} {κ:SortKind} {O:KeyOrd} {key:Keyed→O.α} {dom:Keyed→Prop} {a:Array Keyed} {pd:Array (Nat×Nat×Nat)} {g:Nat}
theorem Bc(h:n < 64)(h0:0 < n):minRun' n n 0=n:=by
 obtain⟨k,rfl⟩:∃k,n=k+1:=⟨n - 1,by omega⟩
 rw[minRun'_succ,if_pos h,Nat.add_zero]
theorem uU(hz:a.size < 64)(C:Cmp prog w A s κ O key dom){Q:Unit→SortSt→Prop}(da:∀x∈a.toList,dom x)(h:∀b pd' g',b.toList.Perm a.toList→So O key b 0 a.size→Q () (SortSt.mk' κ b pd' g' none)):wpS (model prog w) A E s sortRuns' Q (SortSt.mk' κ a #[] g none):=by
 refine wpS_bind (wpS_get ?_)
 refine wpS_bind (wpS_mono (wpS_forRange (I:=fun x c st'=>∃b lo pd g,st'=SortSt.mk' κ b pd g none∧b.toList.Perm a.toList∧c=(none,lo)∧((lo=0∧pd=#[]∧x=0)∨(lo=a.size∧pd.size≤1∧So O key b 0 a.size)))
  (Q:=fun c st'=>∃b pd g,st'=SortSt.mk' κ b pd g none∧b.toList.Perm a.toList∧c=(none,a.size)∧pd.size≤1∧So O key b 0 a.size) ?s1 ?s2 ⟨a,0,#[],g,rfl,List.Perm.refl _,rfl,.inl ⟨rfl,rfl,rfl⟩⟩) ?s3)
 case s2=>
  rintro c st' ⟨b,lo,pd,g,rfl,p1,rfl,p3⟩
  rcases p3 with⟨rfl,rfl,e⟩ |⟨rfl,e,p4⟩
  ·have e':max 0 a.size=0:=e
   have e2:a.size=0:=by omega
   refine⟨b,#[],g,rfl,p1,by rw[e2],by simp,?_⟩
   rw[e2]
   exact fun i j _ _ q=>by omega
  ·exact⟨b,pd,g,rfl,p1,rfl,e,p4⟩
 case s1=>
  rintro x c st' - x2 ⟨b,lo,pd,g,rfl,p1,rfl,p3⟩
  have bz:b.size=a.size:=by have:=p1.length_eq;simpa using this
  refine IT fun R hR=>?_
  have Rd:∀b pd g,b.toList.Perm a.toList→pd.size≤1→So O key b 0 a.size→R (.done (none,a.size)) (SortSt.mk' κ b pd g none):=fun b pd g q1 q2 q3=>by rw[hR];exact⟨b,pd,g,rfl,q1,rfl,q2,q3⟩
  have Ry:∀b pd g,b.toList.Perm a.toList→pd.size≤1→So O key b 0 a.size→R (.yield (none,a.size)) (SortSt.mk' κ b pd g none):=fun b pd g q1 q2 q3=>by rw[hR];exact⟨b,a.size,pd,g,rfl,q1,rfl,.inr ⟨rfl,q2,q3⟩⟩
  clear hR
  dsimp -zeta only
  extract_lets
  refine ku (fun z=>?_) (fun z=>?_)
  ·rcases p3 with⟨rfl,rfl,e⟩ |⟨rfl,e,p4⟩
   ·have e2:a.size=0:=Nat.le_zero.mp z
    have q:=Rd b #[] g p1 (by simp) (by rw[e2];exact fun i j _ _ q=>by omega)
    rw[e2]at q
    exact wpS_pure q
   ·exact wpS_pure (Rd b pd g p1 e p4)
  rcases p3 with⟨rfl,rfl,e⟩ |⟨rfl,e,p4⟩
  case inr=>exact absurd (eD _) z
  have z':0 < a.size:=Nat.lt_of_not_le z
  have mr:=Bc hz z'
  refine wpS_bind (uT C (fun x hx=>da x (p1.mem_iff.mp hx)) (lo:=0) (nrem:=a.size - 0) (by omega) (by omega) fun n c n1 n2 sc ss=>?_)
  dsimp -zeta only
  extract_lets
  rename Unit→Nat→_=>jp
  have J:∀(n:Nat) (c:Array Keyed),n=a.size→c.toList.Perm a.toList→So O key c 0 a.size→wpS (model prog w) A E s (jp () n) R (SortSt.mk' κ c #[] g none):=by
   intro n c n1 cp ss
   subst n1
   refine wpS_bind (wpS_get ?_)
   dsimp -zeta only
   extract_lets
   rename Unit→_=>jq
   have K:∀g,wpS (model prog w) A E s (jq ()) R (SortSt.mk' κ c #[] g none):=by
    intro g
    have q:R (.yield (none,0+a.size)) (SortSt.mk' κ c (#[].push (0,a.size,0)) g none):=by
     rw[Nat.zero_add]
     exact Ry c (#[].push (0,a.size,0)) g cp (by simp) ss
    exact wpS_bind (wpS_modify (wpS_pure q))
   clear_value jq
   exact K g
  clear_value jp
  have cp:=sc.perm.trans p1
  refine ku (fun y=>?_) (fun y=>?_)
  ·refine wpS_bind (wpS_lift (wpAny_rule ⟨rfl,?_⟩))
   have cz:=sc.size
   have y':n < minRun' a.size a.size 0:=y
   refine wpS_bind (qH C (a:=c) (lo:=0) (n:=min (a.size - 0) (minRun' a.size a.size 0)) (ok:=n) (fun x hx=>da x (p1.mem_iff.mp (sc.perm.mem_iff.mp hx))) n1 (by omega) (by omega) ss fun d sd ds=>?_)
   refine ww (by simp) ?_
   refine J _ d (show min (a.size - 0) (minRun' a.size a.size 0)=a.size by rw[mr];omega) (sd.perm.trans cp) ?_
   have e3:0+min (a.size - 0) (minRun' a.size a.size 0)=a.size:=by omega
   rw[e3]at ds
   exact ds
  ·have y':¬n < minRun' a.size a.size 0:=y
   refine J n c (by omega) cp ?_
   have e3:0+n=a.size:=by omega
   rw[e3]at ss
   exact ss
 case s3=>
  rintro c st' ⟨b,pd,g,rfl,p1,rfl,p2,p4⟩
  refine wpS_bind (wpS_mono (wpS_forRange (I:=fun x r st'=>r=(none,())∧∃c pd g,st'=SortSt.mk' κ c pd g none∧c.toList.Perm a.toList∧So O key c 0 a.size∧pd.size≤1)
   (Q:=fun r st'=>r=(none,())∧∃c pd g,st'=SortSt.mk' κ c pd g none∧c.toList.Perm a.toList∧So O key c 0 a.size∧pd.size≤1) ?t1 (fun _ _ q=>q) ⟨rfl,b,pd,g,rfl,p1,p4,p2⟩) ?t3)
  case t1=>
   rintro y r st' - - ⟨rfl,c,pd,g,rfl,cp,ch,hz⟩
   refine wpS_bind (wpS_get ?_)
   refine ku (fun z=>?_) (fun z=>?_)
   ·exact wpS_pure ⟨rfl,c,pd,g,rfl,cp,ch,z⟩
   ·exact absurd hz z
  case t3=>
   rintro r st' ⟨rfl,c,pd,g,rfl,cp,ch,hz⟩
   exact wpS_pure (h c pd g cp ch)
end
end NhLS
namespace NhSG
set_option autoImplicit false
open PySem PyProof PyProof.Rows PySem.W
def Keep(h h':Heap):Prop:=∀b o,h.get? b=some o→h'.get? b=some o
theorem Keep.trans{h1:Heap}(a:Keep h h1)(b:Keep h1 h2):Keep h h2:=fun c o e=>b c o (a c o e)
def IsKy(hp:Heap)(v:Value)(y:Ky):Prop:=∃c o xs k t z u,v=.ref c∧hp.get? c=some o∧o.cls=.type "tuple"∧o.data=.seq xs k∧xs.toList=[.int y.1 t,.str z u]∧y.2=z.cps.toList
theorem IsKy.keep{v:Value}{y:Ky}(a:IsKy h v y)(k:Keep h h'):IsKy h' v y:=by
 obtain⟨c,o,xs,n,t,z,u,e,ho,r⟩:=a
 exact⟨c,o,xs,n,t,z,u,e,k c o ho,r⟩
theorem IsKy.key{v:Value}{y:Ky}(a:IsKy h v y):o0 h v=some y:=by
 obtain⟨c,o,xs,n,t,z,u,rfl,ho,hc,hd,hx,e⟩:=a
 rw[C5 ho hd hx,←e]
def KA(hp:Heap):List Value→List Ky→Prop
 |[],[]=>True
 |v::vs,y::ys=>IsKy hp v y∧KA hp vs ys
 |_,_=>False
theorem KA.keep(k:Keep h h'):∀{vs:List Value} {ys:List Ky},KA h vs ys→KA h' vs ys
 |[],[],_=>trivial
 |v::vs,y::ys,a=>⟨a.1.keep k,KA.keep k a.2⟩
 |[],_::_,a=>a.elim
 |_::_,[],a=>a.elim
theorem KA.len:∀{vs:List Value} {ys:List Ky},KA h vs ys→vs.length=ys.length
 |[],[],_=>rfl
 |v::vs,y::ys,a=>by simp[KA.len a.2]
 |[],_::_,a=>a.elim
 |_::_,[],a=>a.elim
theorem KA.snoc{v:Value}{y:Ky}(b:IsKy h v y):∀{vs:List Value} {ys:List Ky},KA h vs ys→KA h (vs++[v]) (ys++[y])
 |[],[],_=>⟨b,trivial⟩
 |_::_,_::_,a=>⟨a.1,KA.snoc b a.2⟩
 |[],_::_,a=>a.elim
 |_::_,[],a=>a.elim
theorem KA.tups:∀{vs:List Value} {ys:List Ky},KA h vs ys→∃fs,KatTups h vs fs∧(∀f∈fs,∃n t,f=.int n t)∧fs.length=vs.length
 |[],[],_=>⟨[],trivial,(fun _ z=>by cases z),rfl⟩
 |v::vs,y::ys,a=>by
  obtain⟨fs,t,hf,hl⟩:=KA.tups a.2
  obtain⟨c,o,xs,n,tk,z,u,rfl,ho,hc,hd,hx,e⟩:=a.1
  refine⟨.int y.1 tk::fs,KatTups.cons ho hc hd ?_ t,fun f hm=>?_,by simp[hl]⟩
  ·rw[←Array.getElem?_toList,hx]
   rfl
  ·rcases Zai.mp hm with rfl |hm
   ·exact⟨_,_,rfl⟩
   ·exact hf f hm
 |[],_::_,a=>a.elim
 |_::_,[],a=>a.elim
def yI(ys:List Ky)(vs out:List Value):Prop:=∃ps:List (Ky×Value),ps.Perm (ys.zip vs)∧ps.Pairwise (fun p q=>fY q.1 p.1=false)∧out=ps.map (·.2)
@[reducible] def sD (h:Heap) (p:Keyed):Ky:=(o0 h p.1).getD (0,[])
theorem IU{prog:Program}{w:World}{A:Around}{s:Shared}:NhLS.Cmp prog w A s (tuples' true) (fk s.heap).toKeyOrd (sD s.heap) (fun p=>∃y,o0 s.heap p.1=some y):=
 ⟨fun E x y Q ⟨a,ha⟩ ⟨b,hb⟩ hq=>by
  have hq':Q (fY (sD s.heap x) (sD s.heap y)) s:=hq
  unfold sD at hq'
  rw[ha,hb]at hq'
  exact C6 E x.1 y.1 a b ha hb hq'⟩
theorem KA.zip:∀{ks:List Value} {ys:List Ky} {vs:List Value},KA h ks ys→(ks.zip vs).map (fun p=>(sD h p,p.2))=ys.zip vs
 |[],[],_,_=>by simp
 |k::ks,y::ys,[],_=>by simp
 |k::ks,y::ys,v::vs,a=>by
  simp only[List.zip_cons_cons,gI]
  rw[KA.zip a.2]
  congr 1
  show((o0 h k).getD (0,[]),v)=(y,v)
  rw[a.1.key]
  rfl
 |[],_::_,_,a=>a.elim
 |_::_,[],_,a=>a.elim
theorem KA.dom{vs:List Value}:∀{ks:List Value} {ys:List Ky},KA h ks ys→∀p∈ks.zip vs,∃y,o0 h p.1=some y:=fun {ks ys} a p hp=>by
 have hk:p.1∈ks:=(List.of_mem_zip hp).1
 clear hp
 induction ks generalizing ys with
 |nil=>cases hk
 |cons k ks ih=>cases ys with
  |nil=>exact a.elim
  |cons y ys=>
   rcases Zai.mp hk with e |hk
   ·rw[e];exact⟨y,a.1.key⟩
   ·exact ih a.2 hk
theorem FT{ks:List Value}{ys:List Ky}{vs:List Value}{b:Array Keyed}(hK:KA h ks ys)(hp:b.toList.Perm (ks.zip vs))(hs:NhLS.So (fk h).toKeyOrd (sD h) b 0 b.size):yI ys vs (b.map (·.2)).toList:=by
 refine⟨b.toList.map (fun p=>(sD h p,p.2)),?_,?_,?_⟩
 ·rw[←hK.zip (vs:=vs)]
  exact hp.map _
 ·rw[List.pairwise_map,List.pairwise_iff_getElem]
  intro i j hi hj hij
  rw[NhLS.FR,NhLS.FR]
  exact hs i j (zz9 _) hij (by simpa using hj)
 ·rw[Array.toList_map,List.map_map]
  rfl
section
variable {prog:Program} {w:World} {A:Around} {E:Value→Shared→Prop} {s:Shared} {a kS:Addr} {ks vs:List Value} {ys:List Ky} {e e1:Nat} {P:PySem.Fin→Shared→Prop}
theorem wy{st:SortSt} (hk:s.heap.get? kS=some (seqObj "list" ks.toArray e)) (ha:s.heap.get? a=some (seqObj "list" #[] e1)) (hka:kS≠a) (h64:vs.length < 64) (hl:ks.length=vs.length) (hn:(arrOf st).size=vs.length) (hfl:failedOf st=none)
  (h:∀h' tk c,h'.get? a=some (seqObj "list" ((arrOf st).map (·.2)) c)→(∀b o,b≠a→b≠kS→s.heap.get? b=some o→h'.get? b=some o)→P (.done (.ret .none)) {s with heap:=h',toks:=tk}):
  wpAny (model prog w) A (ksk_tail a false e1 (.ref kS) st) P E s:=by
 have s1:=Heap.SameBut.update s.heap kS (Obj.mapSeq fun _=>(#[]:Array Value))
 have na1:(s.heap.update kS (Obj.mapSeq fun _=>(#[]:Array Value))).get? a=some (seqObj "list" #[] e1):=(s1.2 a hka.symm).trans ha
 have s2:=Heap.SameBut.update (s.heap.update kS (Obj.mapSeq fun _=>(#[]:Array Value))) a (Obj.mapSeq fun _=>(arrOf st).map (·.2))
 obtain⟨c2,hc2⟩:∃c2,((s.heap.update kS (Obj.mapSeq fun _=>(#[]:Array Value))).update a (Obj.mapSeq fun _=>(arrOf st).map (·.2))).get? a=some (seqObj "list" ((arrOf st).map (·.2)) c2):=⟨_,get?_update_seq na1 fun _=>(arrOf st).map (·.2)⟩
 unfold ksk_tail
 try dsimp only
 refine zz0 (listUpdate_at hk rfl ?_ (by rw[mz,sizeLine_eq];omega) (zz9 _))
 refine zz0 (wpAny_letGo ?_)
 refine zz0 (seqEpoch_at na1 rfl ?_)
 simp only[hW]
 refine zz0 (listUpdate_at na1 rfl ?_ (zz9 _) (by rw[Array.size_map,hn,sizeLine_eq];omega))
 rw[hfl]
 simp only[bne_self_eq_false,hW]
 exact zz1 (h _ _ c2 hc2 fun b o h1 h2 q=>(s2.2 b h1).trans ((s1.2 b h2).trans q))
theorem FU(hK:KA s.heap ks ys) (hk:s.heap.get? kS=some (seqObj "list" ks.toArray e)) (ha:s.heap.get? a=some (seqObj "list" #[] e1)) (hka:kS≠a) (h64:vs.length < 64) (hl:ks.length=vs.length)
  (h:∀h' tk out c,h'.get? a=some (seqObj "list" out c)→yI ys vs out.toList→(∀b o,b≠a→b≠kS→s.heap.get? b=some o→h'.get? b=some o)→P (.done (.ret .none)) {s with heap:=h',toks:=tk}):
  wpAny (model prog w) A (ksk_end a false vs.toArray e1 (.ref kS) ks.toArray) P E s:=by
 have hzs:(ks.toArray.zip vs.toArray).size=vs.length:=by rw[Array.size_zip,mz,mz,hl,Nat.min_self]
 unfold ksk_end
 try dsimp only
 simp only[hW]
 by_cases h2:vs.toArray.size < 2
 ·rw[if_pos h2,if_pos h2]
  refine zz0 (zz1 ?_)
  rw[StateT.run_pure]
  refine zz0 (zz1 ?_)
  try dsimp only
  refine wy (st:=SortSt.mk' general' (ks.toArray.zip vs.toArray) #[] 7 none) hk ha hka h64 hl hzs rfl fun h' tk c h1 h3=>h h' tk _ c h1 ⟨ys.zip vs,List.Perm.refl _,?_,?_⟩ h3
  ·rw[mz]at h2
   rw[List.pairwise_iff_getElem]
   intro i j hi hj hij
   simp at hj
   omega
  ·have e1:(ys.zip vs).map (·.2)=vs:=by rw[List.map_snd_zip];have:=hK.len;omega
   have e2:((arrOf (SortSt.mk' general' (ks.toArray.zip vs.toArray) #[] 7 none)).map (·.2)).toList=(ks.zip vs).map (·.2):=by
    show((ks.toArray.zip vs.toArray).map (·.2)).toList=_
    simp
   rw[e1,e2,List.map_snd_zip]
   omega
 ·rw[if_neg h2,if_neg h2]
  rw[mz]at h2
  obtain⟨fs,tt,hf,lf⟩:=hK.tups
  refine zz0 (kat_kind (T:=.type "int") tt (by omega) (fun v hv=>?_) (by decide) ?_)
  ·obtain⟨n,t,rfl⟩:=hf v hv
   exact .now
  ·have run:=NhLS.uU (E:=E) (a:=ks.toArray.zip vs.toArray) (g:=7) (by rw[Array.size_zip,mz,mz];omega) (IU (prog:=prog) (w:=w) (A:=A) (s:=s)) (Q:=fun _ st'=>∃b pd g,st'=SortSt.mk' (tuples' true) b pd g none∧b.toList.Perm (ks.zip vs)∧NhLS.So (fk s.heap).toKeyOrd (sD s.heap) b 0 b.size)
    (by simpa using hK.dom) fun b pd g hp hs=>⟨b,pd,g,rfl,by simpa using hp,by have:=hp.length_eq;simp only[Array.length_toList]at this;rw[this];exact hs⟩
   refine zz0 (zz2 run ?_ fun _ _ e=>e)
   rintro⟨⟨⟩,st'⟩ s' ⟨es,b,pd,g,e,hp,hs⟩
   subst es
   dsimp only at e
   subst e
   try dsimp only
   have hz:b.size=vs.length:=by have:=hp.length_eq;simpa[hl]using this
   exact wy (st:=SortSt.mk' (tuples' true) b pd g none) hk ha hka h64 hl hz rfl fun h' tk c h1 h3=>h h' tk _ c h1 (FT hK hp hs) h3
def lr(prog:Program)(w:World)(A:Around)(f:Value)(s:Shared)(v:Value)(y:Ky):Prop:=∀(h:Heap) (tk:Nat),Keep s.heap h→
 wpAny (model prog w) A (call f [v]) (fun r s'=>∃h' tk',s'={s with heap:=h',toks:=tk'}∧Keep h h'∧IsKy h' r y) (fun _ _=>False) {s with heap:=h,toks:=tk}
theorem C9{f:Value} {s0:Shared} (hs0:Keep s0.heap s.heap) (hss:∃tk,s={s0 with heap:=s.heap,toks:=tk}) (h0a:s0.heap.get? a=none) (h0k:s0.heap.get? kS=none) (hk:s.heap.get? kS=some (seqObj "list" #[] 0)) (ha:s.heap.get? a=some (seqObj "list" #[] e1)) (hka:kS≠a) (h64:vs.length < 64) (hl:ys.length=vs.length)
  (turn:∀(i:Nat) (v:Value) (y:Ky),vs[i]? =some v→ys[i]? =some y→lr prog w A f s0 v y)
  (h:∀h' tk out c,h'.get? a=some (seqObj "list" out c)→yI ys vs out.toList→Keep s0.heap h'→P (.done (.ret .none)) {s0 with heap:=h',toks:=tk}):
  wpAny (model prog w) A (ksk_rest a f false vs.toArray e1 (.ref kS)) P E s:=by
 unfold ksk_rest
 refine zz0 (wpAny_rule ?_)
 first
  |rw[List.forIn_toArray]
  |(rw[←Array.forIn_toList];simp only[List.toList_toArray])
  |rw[←Array.forIn_toList]
 obtain⟨tk0,es⟩:=hss
 refine zz0 (ksk_fold (fun i s'=>∃h' tk kL e,s'={s0 with heap:=h',toks:=tk}∧Keep s0.heap h'∧h'.get? kS=some (seqObj "list" kL.toArray e)∧h'.get? a=some (seqObj "list" #[] e1)∧KA h' kL (ys.take i)) vs 0 s
  ⟨s.heap,tk0,[],0,es,hs0,hk,ha,by simp[KA]⟩ ?step ?done)
 case step=>
  rintro j x s' hx ⟨h',tk,kL,e,rfl,F',N1,N2,hK⟩
  simp only[Nat.zero_add]at hK ⊢
  have hj:j < vs.length:=(Zar.mp hx).1
  obtain⟨y,hyj⟩:∃y,ys[j]? =some y:=⟨_,oU (by omega)⟩
  have hz:kL.length≤vs.length:=by
   have h1:=hK.len
   rw[oS]at h1
   omega
  refine zz0 (wpAny_attempt (zz2 (turn j x y hx hyj h' tk F') (fun v s'' he=>?_) fun _ _ hF=>hF.elim))
  obtain⟨g,tk2,rfl,kg,hy⟩:=he
  try dsimp only
  have nk:=kg _ _ N1
  have na:=kg _ _ N2
  have s1:=Heap.SameBut.update g kS (Obj.mapSeq (·.push v))
  obtain⟨c2,hc2⟩:∃c2,(g.update kS (Obj.mapSeq (·.push v))).get? kS=some (seqObj "list" (kL.toArray.push v) c2):=⟨_,get?_update_seq nk (·.push v)⟩
  have ek:ys.take (j+1)=ys.take j++[y]:=by rw[List.take_add_one,hyj];simp
  have ea:kL.toArray.push v=(kL++[v]).toArray:=by simp
  have ng:∀{ks':List Value} {ys':List Ky},KA g ks' ys'→KA (g.update kS (Obj.mapSeq (·.push v))) ks' ys':=fun {ks'} {ys'} q=>by
   induction ks' generalizing ys' with
   |nil=>cases ys' with
    |nil=>trivial
    |cons _ _=>exact q.elim
   |cons k ks' ih=>cases ys' with
    |nil=>exact q.elim
    |cons y' ys'=>
     refine⟨?_,ih q.2⟩
     obtain⟨c,o,xs,n,t,z,u,ec,ho,hcl,r⟩:=q.1
     refine⟨c,o,xs,n,t,z,u,ec,(s1.2 c ?_).trans ho,hcl,r⟩
     intro e3
     subst e3
     rw[nk]at ho
     cases ho
     have e4:Value.type "list"=Value.type "tuple":=hcl
     injection e4 with e5
     exact absurd e5 (by decide)
  refine zz0 (listUpdate_at nk rfl ?_ (by rw[mz,sizeLine_eq];omega) (lL (Nat.le_of_eq (Array.size_push ..)) (by rw[mz,sizeLine_eq];omega)))
  refine zz1 ⟨rfl,_,_,kL++[v],c2,rfl,fun b o q=>?_,by rw[←ea];exact hc2,(s1.2 a hka.symm).trans na,by rw[ek];exact ng (KA.snoc hy (hK.keep kg))⟩
  refine(s1.2 b fun e3=>?_).trans (kg _ _ (F' _ _ q))
  subst e3
  rw[h0k]at q
  cases q
 case done=>
  rintro s' ⟨h',tk,kL,e,rfl,F',N1,N2,hK⟩
  have e3:ys.take (0+vs.length)=ys:=List.take_of_length_le (by omega)
  rw[e3]at hK
  try dsimp only
  refine zz0 (listItems_at N1 rfl ?_)
  refine FU (s:={s0 with heap:=h',toks:=tk}) hK N1 N2 hka h64 (by rw[hK.len,hl]) fun h3 tk3 out c g1 g2 g3=>h h3 tk3 out c g1 g2 fun b o q=>g3 b o ?_ ?_ (F' b o q)
  ·intro z;subst z;rw[h0a]at q;cases q
  ·intro z;subst z;rw[h0k]at q;cases q
theorem C_{f:Value}  {s0:Shared} (hs0:Keep s0.heap s.heap) (hss:∃tk,s={s0 with heap:=s.heap,toks:=tk}) (h0a:s0.heap.get? a=none) (hle:s0.heap.objs.size≤s.heap.objs.size) (ho:s.heap.get? a=some (seqObj "list" vs.toArray n)) (h64:vs.length < 64) (hl:ys.length=vs.length)
  (turn:∀(i:Nat) (v:Value) (y:Ky),vs[i]? =some v→ys[i]? =some y→lr prog w A f s0 v y)
  (h:∀h' tk out c,h'.get? a=some (seqObj "list" out c)→yI ys vs out.toList→Keep s0.heap h'→P (.done (.ret .none)) {s0 with heap:=h',toks:=tk}):
  wpAny (model prog w) A (ksk_tree a f false) P E s:=by
 have ha:a < s.heap.objs.size:=eI ho
 have s1:=Heap.SameBut.update s.heap a (Obj.mapSeq fun _=>(#[]:Array Value))
 obtain⟨e1,ho1⟩:∃e1,(s.heap.update a (Obj.mapSeq fun _=>(#[]:Array Value))).get? a=some (seqObj "list" #[] e1):=⟨_,get?_update_seq ho fun _=>#[]⟩
 have hkS:((s.heap.update a (Obj.mapSeq fun _=>(#[]:Array Value))).push (seqObj "tuple" vs.toArray 0)).objs.size=s.heap.objs.size+1:=by rw[size_push',Heap.size_update]
 obtain⟨tk0,es⟩:=hss
 unfold ksk_tree
 refine zz0 (listItems_at ho rfl ?_)
 refine zz0 (listUpdate_at ho rfl ?_ (by rw[mz,sizeLine_eq];omega) (zz9 _))
 refine zz0 (seqEpoch_at ho1 rfl ?_)
 refine zz0 (wpAny_newTuple ?_ (by show vs.length≤_;rw[sizeLine_eq];omega))
 refine zz0 (wpAny_newList ?_ (zz9 _))
 refine zz7 ?_
 refine C9 (s:={s with heap:=((s.heap.update a (Obj.mapSeq fun _=>(#[]:Array Value))).push (seqObj "tuple" vs.toArray 0)).push (seqObj "list" #[] 0)}) (kS:=((s.heap.update a (Obj.mapSeq fun _=>(#[]:Array Value))).push (seqObj "tuple" vs.toArray 0)).objs.size) (s0:=s0)
  (fun b o q=>?_) ⟨tk0,by rw[es]⟩ h0a (Heap.get?_none_of_le (by rw[hkS];omega)) (kh _ rfl) (eT _ (eT _ ho1)) (by rw[hkS];exact Nat.ne_of_gt (Zb ha)) h64 hl turn h
 refine eT _ (eT _ ((s1.2 b fun z=>?_).trans (hs0 b o q)))
 subst z
 rw[h0a]at q
 cases q
end
end NhSG
namespace NhSG
set_option autoImplicit false
open PySem PyProof PyProof.Rows PySem.W
section
variable {prog:Program} {w:World} {A:Around} {E:Value→Shared→Prop} {s:Shared} {l q:Addr} {vs:List Value} {ys:List Ky} {Q:Value→Shared→Prop}
theorem uV(hl:s.heap.IsList l vs.toArray)(hlen:ys.length=vs.length)(h64:vs.length < 64)
  (turn:∀(i:Nat) (v:Value) (y:Ky),vs[i]? =some v→ys[i]? =some y→lr prog w A.in1.in1 (.ref q) s v y)
  (h:∀D h' tk out c,h'.get? D=some (seqObj "list" out c)→s.heap.objs.size≤D→yI ys vs out.toList→Keep s.heap h'→Q (.ref D) {s with heap:=h',toks:=tk}):
  wpAny (model prog w) A (call (.builtin "sorted") [.ref l] [(Str.ofString "key",.ref q)]) Q E s:=by
 refine call_function_entry_kw kind_sorted plain_sorted entry_sorted (ksk_s1 _ _) ?_
 unfold Builtin.«sorted»
 refine zz0 (m:=checkCount "sorted" 1 1 _) (zz1 ?_)
 refine zz0 (collect_list hl ?_ (by rw[sizeLine_eq];omega))
 refine zz0 (wpAny_newList ?_ (by rw[sizeLine_eq];omega))
 have hsz:((s.heap.push (seqObj "list" #[] 0)).update s.heap.objs.size (Obj.mapSeq (· ++vs.toArray))).objs.size=s.heap.objs.size+1:=by
  rw[Heap.size_update,size_push']
 have hoL:(((s.heap.push (seqObj "list" #[] 0)).update s.heap.objs.size (Obj.mapSeq (· ++vs.toArray))).push (seqObj "list" vs.toArray 0)).get? (s.heap.objs.size+1)=some (seqObj "list" vs.toArray 0):=by
  rw[←hsz];exact kh _ rfl
 have keep:Keep s.heap (((s.heap.push (seqObj "list" #[] 0)).update s.heap.objs.size (Obj.mapSeq (· ++vs.toArray))).push (seqObj "list" vs.toArray 0)):=fun b o q=>by
  have hlt:b < s.heap.objs.size:=eI q
  rw[Heap.get?_push_ne _ _ _ (by rw[hsz];exact eU (Zb hlt)),Heap.get?_update_ne _ _ _ _ (eU hlt),Heap.get?_push_ne _ _ _ (eU hlt)]
  exact q
 show wpAny _ _ _ _ _ {s with heap:=((s.heap.push (seqObj "list" #[] 0)).update s.heap.objs.size (Obj.mapSeq (· ++vs.toArray))).push (seqObj "list" vs.toArray 0)}
 rw[hsz]
 have h0:s.heap.get? (s.heap.objs.size+1)=none:=Heap.get?_none_of_le (Nat.le_succ _)
 refine zz0 (zz7 (wpAny_call_entry_kw slot_list_sort ⟨_,hoL,rfl⟩ entry_list_sort ?body (ksk_l1 _ _)))
 case body=>
  show wpAny (model prog w) A.in1.in1 (Builtin.«list.sort» ⟨[.ref (s.heap.objs.size+1)],[(Str.ofString "key",.ref q)]⟩) _ _ _
  rw[ksk_t1]
  refine C_ (s:={s with heap:=((s.heap.push (seqObj "list" #[] 0)).update s.heap.objs.size (Obj.mapSeq (· ++vs.toArray))).push (seqObj "list" vs.toArray 0)}) (s0:=s) keep ⟨s.toks,rfl⟩ h0 (by rw[size_push',hsz];omega) hoL h64 hlen turn fun h' tk out c g1 g2 g3=>⟨_,rfl,?_⟩
  exact zz1 ⟨_,rfl,h _ h' tk out c g1 (Nat.le_succ _) g2 g3⟩
end
end NhSG
namespace NhSG
set_option autoImplicit false
open PySem
def ir(z:Str):Ky:=(z.length,z.cps.toList)
def rj(a b:Str):Bool:= !fY (ir b) (ir a)
def kb(ws:List Str):List Str:=ws.mergeSort rj
def tK:Value→Option Str
 |.str z _=>some z
 |_=>none
theorem Bd{a b:Str}(h:ir a=ir b):a=b:=by
 have e:a.cps.toList=b.cps.toList:=congrArg Prod.snd h
 cases a;cases b
 congr
 exact Array.toList_inj.mp e
theorem yJ(a b c:Str)(h1:rj a b=true)(h2:rj b c=true):rj a c=true:=by
 unfold rj at *
 simp only[Bool.not_eq_true']at *
 exact(PyProof.Rows.KeyOrd.kle_trans (O:=(fk default).toKeyOrd) h1 h2)
theorem yK(a b:Str):(rj a b||rj b a)=true:=by
 unfold rj
 by_cases h:fY (ir b) (ir a)=true
 ·have:fY (ir a) (ir b)=false:=PyProof.Rows.KeyOrd.klt_asymm (O:=(fk default).toKeyOrd) h
  simp[this]
 ·simp[Bool.not_eq_true _▸h]
theorem Be{a b:Str}(h1:rj a b=true)(h2:rj b a=true):a=b:=by
 unfold rj at *
 simp only[Bool.not_eq_true']at *
 exact Bd ((fk default).total _ _ h2 h1)
theorem pR{qs ws:List Str}(hp:qs.Perm ws)(hs:qs.Pairwise fun a b=>rj a b=true):qs=kb ws:=by
 have h1:(kb ws).Pairwise fun a b=>rj a b=true:=List.pairwise_mergeSort yJ yK ws
 have h2:qs.Perm (kb ws):=hp.trans (List.mergeSort_perm ws rj).symm
 exact h2.eq_of_pairwise (fun a b _ _ x y=>Be x y) hs h1
theorem yL{ws:List Str}{vs out:List Value}(hv:vs.map tK=ws.map some)(h:yI (ws.map ir) vs out):out.map tK=(kb ws).map some:=by
 obtain⟨ps,hp,hs,rfl⟩:=h
 have key:∀(ws:List Str) (vs:List Value),vs.map tK=ws.map some→∀p∈(ws.map ir).zip vs,∃z,p.1=ir z∧tK p.2=some z:=fun ws=>by
  induction ws with
  |nil=>intro vs _ p hp;simp at hp
  |cons w ws ih=>
   intro vs hv p hp
   cases vs with
   |nil=>simp at hp
   |cons v vs=>
    simp only[gI,List.cons.injEq]at hv
    rw[gI,List.zip_cons_cons]at hp
    rcases Zai.mp hp with rfl |hp
    ·exact⟨w,rfl,hv.1⟩
    ·exact ih vs hv.2 p hp
 have zm:∀(ws:List Str) (vs:List Value),vs.map tK=ws.map some→((ws.map ir).zip vs).map (fun p=>tK p.2)=ws.map some:=fun ws=>by
  induction ws with
  |nil=>intro vs _;simp
  |cons w ws ih=>
   intro vs hv
   cases vs with
   |nil=>simp at hv
   |cons v vs=>
    simp only[gI,List.cons.injEq]at hv
    simp only[gI,List.zip_cons_cons,hv.1,ih vs hv.2]
 have ex:∀ps:List (Ky×Value),(∀p∈ps,∃z,p.1=ir z∧tK p.2=some z)→∃qs:List Str,ps.map (·.1)=qs.map ir∧ps.map (fun p=>tK p.2)=qs.map some:=fun ps=>by
  induction ps with
  |nil=>intro _;exact⟨[],rfl,rfl⟩
  |cons p ps ih=>
   intro h
   obtain⟨z,h1,h2⟩:=h p (jJ ..)
   obtain⟨qs,e1,e2⟩:=ih fun q hq=>h q (gW _ hq)
   exact⟨z::qs,by simp[h1,e1],by simp[h2,e2]⟩
 obtain⟨qs,e1,e2⟩:=ex ps fun p hp'=>key ws vs hv p (hp.mem_iff.mp hp')
 have perm:qs.Perm ws:=by
  have h1:=hp.map (fun p=>tK p.2)
  rw[e2,zm ws vs hv]at h1
  have h2:=h1.filterMap id
  simpa using h2
 have srt:qs.Pairwise fun a b=>rj a b=true:=by
  have h1:(ps.map (·.1)).Pairwise fun a b=>fY b a=false:=List.pairwise_map.mpr hs
  rw[e1,List.pairwise_map]at h1
  exact h1.imp fun h=>by unfold rj;simp[h]
 rw[List.map_map]
 show ps.map (fun p=>tK p.2)=_
 rw[e2,pR perm srt]
end NhSG
namespace NhSG
open PySem PySem.Spec PySem.Calls PyProof PyProof.Rows PySem.W
section
variable {prog:Program} {w:World} {A:Around} {E:Value→Shared→Prop} {s:Shared} {Q:Value→Shared→Prop}
theorem Bf{env:Env}  {t:Tok} {m mg mb:Str→Option Value} {p4:Pos} {x1} (hk:env.scope.kind=.function) (hx:env.kindOf x=some .local) (hl:env.kindOf "len"=some .globalImplicit)
  (hn:s.heap.Ns env.locals m) (hm:m x=some (.str z t)) (hg:s.heap.Ns env.globals mg) (hlg:mg "len"=none) (hb:s.heap.Ns env.builtins mb) (hlb:mb "len"=some (.builtin "len")) (hz:z.length≤sizeLine)
  (h:∀h' tk r,Keep s.heap h'→IsKy h' r (ir z)→Q r {s with heap:=h',toks:=tk})
  (hd:(x == ("__debug__":Str))=false:=by decide) (h1:starEach [Expr.Call (.Name "len" p1) [.Name x p2] [] p3,.Name x p4] env=(false,eval (.Call (.Name "len" p1) [.Name x p2] [] p3) env)::starEach [Expr.Name x p4] env:=by rfl)
  (h2:starEach [Expr.Name x p4] env=[(false,eval (.Name x p4) env)]:=by rfl) (h3:starEach [Expr.Name x p2] env=(false,eval (.Name x p2) env)::starEach [] env:=by rfl):
  wpAny (model prog w) A (eval (.Tuple [.Call (.Name "len" p1) [.Name x p2] [] p3,.Name x p4] x1 pos) env) Q E s:=by
 refine wpAny_Tuple_spliced ?_
 rw[h1,h2]
 show wpAny _ _ (spliced ((false,eval (.Call (.Name "len" p1) [.Name x p2] [] p3) env)::backTo pos [(false,eval (.Name x p4) env)])) _ _ s
 refine Calls.spliced_cons ?_
 refine zz6 (Calls.Name_function_global hk hl (Calls.loadGlobal_builtin hg hlg hb hlb ?_) (by decide))
 refine PyProof.Rows.callWith_builtin1 ?_ h3 rfl
 rw[h3]
 show wpAny _ _ (spliced ((false,eval (.Name x p2) env)::backTo p3 (starEach [] env))) _ _ s
 refine Calls.spliced_cons (wpAny_Name (wpAny_loadName_local hk hx hn hm ?_) hd)
 show wpAny _ _ (spliced []) _ _ s
 refine Calls.spliced_nil ?_
 refine len_str (by have:=hz;rw[sizeLine_eq]at this;omega) ?_
 show wpAny _ _ (spliced [(false,standAt pos >>= fun _=>eval (.Name x p4) env)]) _ _ _
 refine Calls.spliced_cons (zz0 (wpAny_standAt (wpAny_Name (wpAny_loadName_local hk hx hn hm ?_) hd)))
 refine Calls.spliced_nil ⟨by rw[sizeLine_eq];simp,?_⟩
 exact h _ _ _ (fun b o e=>eT _ e) ⟨_,_,_,_,_,z,t,rfl,kh _ rfl,rfl,rfl,rfl,rfl⟩
structure KMod (h:Heap):Prop where
 g:∃mg,h.Ns mainGlobals mg∧mg "len"=none
 b:∃mb,h.Ns builtinsNs mb∧mb "len"=some (.builtin "len")
 lim:h.NoLimit
theorem KMod.keeps(a:KMod h)(k:Keep h h'):KMod h':=
 ⟨let ⟨mg,e,r⟩:=a.g;⟨mg,e.keeps k,r⟩,let ⟨mb,e,r⟩:=a.b;⟨mb,e.keeps k,r⟩,a.lim.keeps k⟩
theorem sE{f:Addr}{name:Str}{t:Tok}{ctv:Value}{p4:Pos}{x1}(M:KMod s.heap)(hroom:A.depth < recursionLimit)
  (ho:s.heap.get? f=some (kla_obj name qual params (.Tuple [.Call (.Name "len" p1) [.Name x p2] [] p3,.Name x p4] x1 pos) scope [] pm c' ctv)) (hcd:s.heap.CodeRec (.ref c') qual) (hz:z.length≤sizeLine)
  (hbind:bindArgs (kla_fn name qual params (.Tuple [.Call (.Name "len" p1) [.Name x p2] [] p3,.Name x p4] x1 pos) scope [] pm (.ref c') ctv) ⟨[.str z t],[]⟩=pure [(x,.str z t)])
  (hx:scope.names.lookup x=some .local) (hlen:scope.names.lookup (Str.ofString "len")=some .globalImplicit) (hco:scope.isCoroutine=false) (hgen:scope.isGenerator=false) (hk:scope.kind=.function) (hcell:∀x∈scope.names,x.2≠ .cell)
  (hd:(x == ("__debug__":Str))=false):lr prog w A (.ref f) s (.str z t) (ir z):=by
 intro h tk kp
 refine wpAny_call (kla_callFunE hroom (kp _ _ ho) rfl hco hgen rfl (hcd.keeps kp) ?_)
 rw[hbind]
 refine zz1 (wpAny_newFunctionEnv hcell (fun y hy=>?_) (fun h₁ hns hsb=>⟨((M.keeps kp).lim).fresh _ hsb,?_⟩) hk)
 ·rw[Zac.mp hy];exact hx
 have hk₁:Keep h h₁:=fun b o e=>hsb.extBut b o (eU (eI e)) (eT _ e)
 have M1:=(M.keeps kp).keeps hk₁
 obtain⟨mg,g1,g2⟩:=M1.g
 obtain⟨mb,b1,b2⟩:=M1.b
 refine kla_codeExpr (Bf (t:=t) (z:=z) (m:=fun y=>List.lookup y [(x,Value.str z t)].reverse) hk hx hlen hns ?_ g1 g2 b1 b2 hz (fun h' tk' r k1 k2=>?_) hd)
 ·simp
 ·exact⟨h',tk',rfl,hk₁.trans k1,k2⟩
end
end NhSG
namespace PL
open PySem L2 Nh
def qI(f:bj):bj:=fun E=>(f E).bind fun a=>match look a.2 a.1 with
 |some (.list ds)=>(j_ ds).bind fun ss=>if (decide (ss.length < 64)&&ss.all fun z=>decide (z.length≤1000))=true then some (.ow ((NhSG.kb ss).map .str),a.2)else none
 |_=>none
theorem sG:∀{ws:List Str} {vs:List Value},Vals (ws.map V.str) vs→vs.map NhSG.tK=ws.map some
 |[],_,.nil=>rfl
 |w::ws,_,.cons r t=>by
  obtain⟨u,rfl⟩:=r
  simp only[gI,sG t]
  rfl
theorem sH:∀{ws:List Str} {vs:List Value},vs.map NhSG.tK=ws.map some→Vals (ws.map V.str) vs
 |[],[],_=>.nil
 |[],_::_,h=>by simp at h
 |_::_,[],h=>by simp at h
 |w::ws,v::vs,h=>by
  simp only[gI,List.cons.injEq]at h
  refine .cons ?_ (sH h.2)
  have h1:=h.1
  unfold NhSG.tK at h1
  split at h1
  ·cases h1;exact⟨_,rfl⟩
  ·cases h1
section
variable {X:Cx} {pins:List (Addr×Obj)} {σ:L2.St} {H:Hp} {s:Shared}
theorem Hq(I:Inv X pins σ H s) (hl:X.mg "len"=none):NhSG.KMod s.heap:=
 ⟨⟨X.mg,I.mod.glob.keeps I.bk,hl⟩,let ⟨mb,h1,h2⟩:=I.mod.blt;⟨mb,h1.keeps I.bk,(h2 _ (by decide)).trans rfl⟩,I.nolimit⟩
theorem pS{l q:Addr}{ss:List Str}{Q:VK}(I:Inv X pins σ H s)(hq:SqL X.K H l (ss.map V.str))(h64:ss.length < 64)
  (turn:∀z t,z∈ss→NhSG.lr X.prog X.w X.A.in1.in1 (.ref q) s (.str z t) (NhSG.ir z))
  (h:∀D,H D=none→Q (.ref D) (upd H D (.lst ((NhSG.kb ss).map V.str)))):
  wpAny (model X.prog X.w) X.A (call (.builtin "sorted") [.ref l] [(Str.ofString "key",.ref q)]) (EP X pins σ Q) X.xe s:=by
 obtain⟨its,rv,pl,hz⟩:=I.list hq
 have hv:=sG rv
 have hlen:its.length=ss.length:=by have:=congrArg List.length hv;simpa using this
 refine NhSG.uV (ys:=ss.map NhSG.ir) pl.isList (by simp[hlen]) (by omega) (fun i v y hv' hy'=>?_) fun D h' tk out c g1 g2 g3 g4=>?_
 ·rw[wT]at hy'
  obtain⟨z,hz1,rfl⟩:=Zab.mp hy'
  have e:(its.map NhSG.tK)[i]? =(ss.map some)[i]? :=by rw[hv]
  rw[wT,wT,hv',hz1]at e
  have e1:NhSG.tK v=some z:=by simpa using e
  unfold NhSG.tK at e1
  split at e1
  ·cases e1;exact turn _ _ (List.mem_of_getElem? hz1)
  ·cases e1
 ·have ot:=NhSG.yL hv g3
  refine⟨.ref D,_,I.laid (t':=tk) g4 g2 (show ObjOk X.prog X.w _ _ _ (.lst ((NhSG.kb ss).map V.str))from⟨?_,out.toList,c,sH ot,by simpa using g1⟩),rfl,h D (I.hok.fresh g2)⟩
  rw[fw]
  have:(NhSG.kb ss).length=ss.length:=(List.mergeSort_perm ss NhSG.rj).length_eq
  rw[this,sizeLine_eq]
  omega
end
theorem sI(h:z.length≤1000):z.length≤sizeLine:=by rw[sizeLine_eq];omega
end PL
namespace PL
open PySem L2 Nh
theorem o4{a b:Int}{c cv:Value}(l:List Value)(h:TriplesOk l)(e:codeAmong pos (l++[rawInt a,rawInt b,c])=some cv):codeAmong pos l=some cv∨cv=c:=by
 fun_induction TriplesOk l with
 |case1=>
  simp only[Z8,codeAmong,rawInt]at e
  split at e
  ·cases e;exact .inr rfl
  ·cases e
 |case2 a' t b' u x dO ih=>
  simp only[Z9,codeAmong]at e ⊢
  split at e
  ·rename_i hc;rw[if_pos hc];exact .inl e
  ·rename_i hc;rw[if_neg hc];exact ih h e
 |case3 l h1 h2=>exact h.elim
section
variable {X:Cx} {pins:List (Addr×Obj)} {σ:L2.St} {H:Hp} {s:Shared}
theorem pT{P:Addr}{ps:Array Value}{a b:Int}(I:Inv X pins σ H s)(hT:H P=some (.tbl q))(hps:s.heap.get? P=some (tabObj ps))
  (hx:∀b o,b≠P→s.heap.get? b=some o→h'.get? b=some o) (hc:s.heap.objs.size≤c') (hr:h'.CodeRec (.ref c') q) (hP:h'.get? P=some (tabObj (ps++#[rawInt a,rawInt b,.ref c']))):
  Inv X pins σ (upd H c' (.own P)) {s with heap:=h',toks:=tk}:=by
 have hn:H c'=none:=I.hok.fresh hc
 have neP:∀b,H b=none→b≠P:=fun b n z=>by subst z;rw[hT]at n;cases n
 obtain⟨ps0,e0,t0,r0⟩:=I.hok P _ hT
 rw[hps]at e0
 cases e0
 refine I.un (h':=h') (t':=tk) ⟨fun b o e n _ _=>hx b o (neP b n) e,fun b o e n _ _=>⟨o.slots,hx b o (neP b n) e⟩,fun b o e n _=>?_,fun b o e _=>?_,fun b xs e=>?_,fun b o u e=>?_,fun b z e=>?_⟩ fun d o e=>?_
 ·rw[aF (eU (kT (eI e) hc))];exact n
 ·by_cases hb:b=P
  ·subst hb;exact⟨_,hP⟩
  ·exact⟨o,hx b o hb e⟩
 ·rw[aF (bu e hn)];exact e
 ·rw[aF (bu e hn)];exact e
 ·rw[aF (bu e hn)];exact e
 ·by_cases hd:d=c'
  ·subst hd
   rw[upd_same]at e
   cases e
   obtain⟨c2,oc,_,_,hc2,hoc,_⟩:=hr
   cases hc2
   exact⟨oc,hoc⟩
  ·rw[aF hd]at e
   by_cases hp:d=P
   ·subst hp
    rw[hT]at e
    cases e
    refine⟨_,hP,by simpa using TriplesOk_snoc a b (.ref c') _ t0,fun pos cv z=>?_⟩
    rcases o4 (a:=a) (b:=b) (c:=.ref c') ps.toList t0 (by simpa using z)with z |z
    ·obtain⟨c,ec,ho,c2,oc,vs,tq,hc2,hoc,hr2⟩:=r0 pos cv z
     subst ec
     cases hc2
     refine⟨c,rfl,by rw[aF (bu ho hn)];exact ho,c,oc,vs,tq,rfl,hx _ _ (fun z=>?_) hoc,hr2⟩
     subst z
     rw[hT]at ho
     cases ho
    ·subst z
     exact⟨c',rfl,upd_same,hr⟩
   ·refine(I.hok d o e).stay (fun b u hb q=>hx b u ?_ q) (fun b hb=>by rw[aF (bu hb hn)];exact hb) fun b xs hb=>by rw[aF (bu hb hn)];exact hb
    rcases hb with rfl |hb
    ·exact hp
    ·intro z
     subst z
     rw[hT]at hb
     cases hb
theorem D7{P:Addr}{ps:Array Value}(I:Inv X pins σ H s)(hps:s.heap.get? P=some (tabObj ps)):mainGlobals≠P∧s.heap.BuiltinsAt X.mg P:=by
 have hg:=I.mod.glob.keeps I.bk
 obtain⟨bm,ob,b1,b2,b3,b4,b5,b6⟩:=I.mod.bmain
 have b3':=I.bk _ _ b3
 refine⟨fun q=>?_,bm,ob,b1,b2,fun q=>?_,fun q=>?_,b3',b4,b5,b6⟩
 ·obtain⟨o,es,ep,e,hd,_⟩:=hg
  rw[q,hps]at e;cases e;cases hd
 ·obtain⟨o,es,ep,e,hd,_⟩:=hg
  rw[q,e]at b3';cases b3';rw[hd]at b6;cases b6
 ·rw[q,hps]at b3';cases b3';cases b4
end
section
variable {X:Cx} {e:Expr} {m:Bool} {f:bj} {p pos kp lp:Pos} {y:Str} {k:Nat} {p1 p2 p3 p4 tp:Pos} {x1:Nat} {params:Arguments} {scope:Scope} {c P:Addr}
theorem Bg(hcode:X.env.code=.ref c) (hP:hZ X.K P=some "in_told_order.<locals>.<lambda>") (hC:codeHdIn X.K c P=true) (hr:Room k X.A) (hg:Gl X "sorted") (hm:X.mg "sorted"=none) (hl:X.mg "len"=none) (ha:EX X e m f)
  (hq:X.env.qual++"<lambda>"=Str.ofString "in_told_order.<locals>.<lambda>") (hdef:defaultsOf params X.env=([],[]):=by rfl)
  (hbind:∀(name qual:Str) (pm cd ctv u:Value),bindArgs (kla_fn name qual params (.Tuple [.Call (.Name "len" p1) [.Name y p2] [] p3,.Name y p4] x1 tp) scope [] pm cd ctv) ⟨[u],[]⟩=pure [(y,u)]:=by intros;rfl)
  (sc1:scope.names.lookup y=some .local:=by rfl) (kR:scope.names.lookup (Str.ofString "len")=some .globalImplicit:=by rfl) (sc3:scope.isCoroutine=false:=by rfl) (sc4:scope.isGenerator=false:=by rfl) (sc5:scope.kind=.function:=by rfl)
  (sc6:∀x∈scope.names,x.2≠ .cell:=by decide) (sc7:∀x∈scope.names,x.2≠ .free:=by decide) (hdy:(y == ("__debug__":Str))=false:=by decide)
  (he:starEach [e] X.env=[(false,eval e X.env)]:=by rfl)
  (he':backTo pos (starEach [e] X.env)=(false,eval e X.env)::backTo pos (starEach [] X.env):=by rfl) (hpl:(backTo pos (starEach [e] X.env)).any (·.1)=false:=by rfl)
  (hall:(backToKw pos (keywordEach [⟨some "key",.Lambda params (.Tuple [.Call (.Name "len" p1) [.Name y p2] [] p3,.Name y p4] x1 tp) scope lp,kp⟩] X.env)).all (·.1.isSome)=true:=by rfl)
  (hkw:(backToKw pos (keywordEach [⟨some "key",.Lambda params (.Tuple [.Call (.Name "len" p1) [.Name y p2] [] p3,.Name y p4] x1 tp) scope lp,kp⟩] X.env)).any (·.1.isNone)=false:=by rfl)
  (hnm:(backToKw pos (keywordEach [⟨some "key",.Lambda params (.Tuple [.Call (.Name "len" p1) [.Name y p2] [] p3,.Name y p4] x1 tp) scope lp,kp⟩] X.env)).filterMap (·.1)=[Str.ofString "key"]:=by rfl):
  EX X (.Call (.Name "sorted" p) [e] [⟨some "key",.Lambda params (.Tuple [.Call (.Name "len" p1) [.Name y p2] [] p3,.Name y p4] x1 tp) scope lp,kp⟩] pos) m (qI f):=by
 intro pins s σ H Q I z
 obtain⟨B,E,xs,Xs,res,E',fr,cl,e0,q⟩:=z
 obtain⟨⟨r1,E1⟩,e1,e2⟩:=Za.mp e0
 simp only at e2
 split at e2
 ·rename_i ds ld
  obtain⟨ss,en,e3⟩:=Za.mp e2
  split at e3
  ·rename_i hc
   cases e3
   simp only[qZ,decide_eq_true_eq,List.all_eq_true]at hc
   refine zz6 (lN I hg hm PyProof.Rows.boot_sorted ?_ (by decide) (by decide))
   refine PyProof.Rows.callWith_kw (ce (cP ha eJ he pos pins s σ H (fun vs H1=>∃p,vs=[.ref p]∧SqL X.K H1 p (ss.map V.str)∧∀H2,Same H1 H2→∀D,H2 D=none→Q (.ref D) (upd H2 D (.lst ((NhSG.kb ss).map V.str)))) I ⟨B,E,xs,Xs,r1,_,fr,cl,e1,fun v1 H1 ⟨F,A,fr1⟩=>?_⟩) fun us s2 ⟨vs,H1,I1,r1,p0,ev,hq1,q1⟩=>?_) he' hpl hall hkw
   ·obtain⟨A',fr2⟩:=fr1.pop
    have r:=(fr1.look0 ld).1
    cases r with
    |lst h1 h2=>
     have:=m6 h2 en
     subst this
     exact⟨_,rfl,h1,fun H2 g D hD=>q _ _ ⟨_,_,(fr2.grow g).newl (gl _) hD⟩⟩
   ·subst ev
    cases r1 with
    |cons r rr=>
     cases rr
     cases r
     refine PyProof.Rows.kws_cons (PySem.W.kla_eval hdef ?_)
     have hT:H1 P=some (.tbl (Str.ofString "in_told_order.<locals>.<lambda>")):=I1.tab P _ hP
     obtain⟨ps,hps,ht,hit⟩:=I1.hok P _ hT
     obtain⟨hgP,hbA⟩:=D7 I1 hps
     have hcl:closureFor scope X.env=pure []:=closureFor_none sc7
     have C:=codeHd_of_K I1.kIn hC
     have hroom:X.A.in1.in1.depth < recursionLimit:=by have:=hr.dp;show X.A.depth < recursionLimit;omega
     cases hca:codeAmong lp ps.toList with
     |none=>
      refine PySem.W.kla_makeFunction hcl I1.ok.glob (I1.mod.glob.keeps I1.bk) hcode C hps ht hca hgP hbA fun c' ctv h' tk hx hge hlt hrec htb=>?_
      rw[hq]at hrec
      have I2:=pT (tk:=tk) I1 hT hps (fun b o hb e=>hx b o hb e) hge hrec htb
      have g:Same H1 (upd H1 c' (.own P)):=fz (I1.hok.fresh hge) _
      have I3:=I2.kept (t':=tk) (fun b o e=>eT (kla_obj "<lambda>" (X.env.qual++"<lambda>") params (.Tuple [.Call (.Name "len" p1) [.Name y p2] [] p3,.Name y p4] x1 tp) scope [] ((X.mg "__name__").getD .none) c' ctv) e)
      refine PyProof.Rows.kws_nil ?_
      rw[hnm]
      refine pS I3 (g.seq hq1) hc.1 (fun z t hz=>?_) (q1 _ g)
      exact NhSG.sE (Hq I3 hl) hroom (kh _ rfl) (by rw[hq];exact hrec.keeps fun b o e=>eT _ e) (sI (hc.2 z hz)) (hbind _ _ _ _ _ _) sc1 kR sc3 sc4 sc5 sc6 hdy
     |some cv=>
      obtain⟨c',rfl,ho,hrec⟩:=hit lp cv hca
      refine PySem.W.kla_makeFunctionHit hcl I1.ok.glob (I1.mod.glob.keeps I1.bk) hcode C hps ht hca hbA fun ctv h' tk hx hsz=>?_
      have I3:=I1.kept (t':=tk) (fun b o e=>eT (kla_obj "<lambda>" (X.env.qual++"<lambda>") params (.Tuple [.Call (.Name "len" p1) [.Name y p2] [] p3,.Name y p4] x1 tp) scope [] ((X.mg "__name__").getD .none) c' ctv) (hx b o e))
      refine PyProof.Rows.kws_nil ?_
      rw[hnm]
      refine pS I3 hq1 hc.1 (fun z t hz=>?_) (q1 _ (Same.refl _))
      exact NhSG.sE (Hq I3 hl) hroom (kh _ rfl) (by rw[hq];exact hrec.keeps fun b o e=>eT _ (hx b o e)) (sI (hc.2 z hz)) (hbind _ _ _ _ _ _) sc1 kR sc3 sc4 sc5 sc6 hdy
  ·cases e3
 ·cases e2
end
structure DefT (K:Frag) (mg:Str→Option Value) (x:Str) (st:Stmt) (ps:List Str) (c P:Addr):Prop where
 ex:∃(f:Addr) (oc:Value) (od:Option Addr) (kV doc pm:Value) (an:Option Addr) (ct:Value) (osl:Array (Option Value)),
  K.lookup f=some ⟨oc,od,.func (fnOf x x (bY st) (a6 st) (ai st) .none kV doc pm an (.ref c) ct),osl⟩∧codeIn K (.ref c) x=true∧keepIn K (.ref f)=true∧mg x=some (.ref f)∧
   Binds K (fnOf x x (bY st) (a6 st) (ai st) .none kV doc pm an (.ref c) ct) ps []
 hd:codeHdIn K c P=true
 tp:hZ K P=some (x++".<locals>."++"<lambda>")
theorem FV{w:World}{K:Frag}{mg:Str→Option Value}{base:Heap}{N:List Str}{a:Nat}{g:cZ}{c:Addr}(D:DefT K mg x st ps c T)(S:FnScope N ps (ai st))(hpa:ps.length=a)(hNn:N.length=n)(hps:a≤n)
  (hbody:∀(f:Addr) (A:Around) (outer:List Env) (s:Shared) (H:Hp) (E:XK),Room k (A.deeper (PyProof.Rows.envOfC x (ai st) s.heap.objs.size f (.ref c)))→
   q_ (gf nz P w K mg base N x (ai st) f (.ref c) A outer s H E).nox (a6 st) g):Own P w K mg base (k+1) x ps (gY K (gB a n g)):=by
 subst hpa hNn
 obtain⟨f,oc,od,kV,doc,pm,an,ct,osl,lk,hcd,kp,hm,hb⟩:=D.ex
 refine⟨f,_,vR lk hcd S (fun vs H Q E h=>?_) (fun A outer s H vs Q E hr h=>?_),hb,hm,kp⟩
 ·obtain⟨ds,r,e,rp,_⟩:=h
  unfold gB at e
  split at e
  ·rename_i hl
   rw[rp.len];exact hl
  ·cases e
 obtain⟨ds,r,e,rp,q⟩:=h
 unfold gB at e
 split at e
 ·rename_i hl
  refine⟨_,(hbody f A outer s H E hr).nox,?_⟩
  obtain⟨⟨E',fl⟩,e1,e⟩:=Za.mp e
  refine⟨H,cI N.length ds,[],[],E',fl,⟨H,[],jR rp (by omega)⟩,rfl,e1,?_⟩
  cases fl with
  |nx=>
   cases e
   rintro σ' H' ⟨F',A',fr'⟩
   exact q _ _ (fr'.bf.trans fr'.fh) .non
  |bk=>cases e
  |ct=>cases e
  |rt r'=>
   rintro σ' v H' ⟨F',A',fr'⟩
   obtain⟨s1,s2⟩:=fr'.resultO e
   exact q v H' s1 s2
 ·cases e
theorem Bh{K:Frag}{n:Str}{f c P:Addr}{occ:Value}{od odc:Option Addr}{sl slc:Array (Option Value)}{vs:Array Value}(a:nsIn K mainGlobals n=some (some (.ref f)))(l:K.lookup f=some ⟨oc,od,.func fd,sl⟩)(hc:fd.code=.ref c)
  (lc:K.lookup c=some ⟨occ,odc,.fields vs,slc⟩) (hv:(vs[11]? :Option Value)=some (.ref P)):vL K n=some P:=by
 unfold vL
 rw[a]
 simp only[l,hc,lc,hv]
def D8(K:Frag)(n:Str)(o:Option Addr):Prop:=vL K n=o∧∀P,o=some P→∃c,codeHdIn K c P=true
theorem lz{K:Frag}{n:Str}{f c P:Addr}{occ:Value}{od odc:Option Addr}{sl slc:Array (Option Value)}{vs:Array Value}(a:nsIn K mainGlobals n=some (some (.ref f)))(l:K.lookup f=some ⟨oc,od,.func fd,sl⟩)(hc:fd.code=.ref c)
  (lc:K.lookup c=some ⟨occ,odc,.fields vs,slc⟩) (hv:(vs[11]? :Option Value)=some (.ref P)) (hd:codeHdIn K c P=true):D8 K n (some P):=⟨Bh a l hc lc hv,fun _ e=>by cases e;exact⟨c,hd⟩⟩
def gC(K:Frag):List (Str×Str)→List (Option Addr)→Prop
 |[],[]=>True
 |n::r,o::os=>D8 K n.1 o∧gC K r os
 |_,_=>False
def Bi(b:Addr):List (Str×Str)→List (Option Addr)→Option Str
 |n::r,o::os=>if o=some b then some n.2 else Bi b r os
 |_,_=>none
theorem jX{K:Frag}{b:Addr}:∀{l:List (Str×Str)} {os:List (Option Addr)},gC K l os→B4 K b l=Bi b l os
 |[],[],_=>rfl
 |n::r,o::os,h=>by
  unfold B4 Bi
  rw[h.1.1,jX h.2]
theorem sJ{b:Addr}:∀{l:List (Str×Str)} {os:List (Option Addr)},Bi b l os=some q→some b∈os
 |n::r,o::os,h=>by
  unfold Bi at h
  split at h
  ·rename_i e;rw[e];exact jJ ..
  ·exact gW _ (sJ h)
 |[],_,h=>by cases h
 |_::_,[],h=>by cases h
theorem Bj{K:Frag}{os:List (Option Addr)}(T:gC K pf os)(ht:∀b,some b∈os→h.get? b=some (tabObj #[])∧(∃c,PySem.W.CodeHd h c b)∧K.lookup b=none):wl K h:=fun b q e=>by
 unfold hZ at e
 rw[jX T]at e
 exact ht b (sJ e)
def oj(K:Frag)(h:Heap):List (Option Addr)→Prop
 |[]=>True
 |none::r=>oj K h r
 |some P::r=>(h.get? P=some (tabObj #[])∧K.lookup P=none)∧oj K h r
theorem kz{K:Frag}{b:Addr}:∀{l:List (Str×Str)} {os:List (Option Addr)},gC K l os→oj K h os→some b∈os→h.get? b=some (tabObj #[])∧(∃c,codeHdIn K c b=true)∧K.lookup b=none
 |_,[],_,_,m=>by cases m
 |[],_::_,T,_,_=>T.elim
 |_::l,none::r,T,t,m=>by
  rcases Zai.mp m with e |e
  ·cases e
  ·exact kz (os:=r) T.2 t e
 |_::l,some P::r,T,t,m=>by
  rcases Zai.mp m with e |e
  ·cases e;exact⟨t.1.1,T.1.2 _ rfl,t.1.2⟩
  ·exact kz T.2 t.2 e
theorem Da{K:Frag}{os:List (Option Addr)}(X:K.In h)(T:gC K pf os)(t:oj K h os):wl K h:=Bj T fun b m=>
 let ⟨t1,⟨c,t2⟩,t3⟩:=kz T t m
 ⟨t1,⟨c,codeHd_of_K X t2⟩,t3⟩
end PL
namespace PL
open PySem PySem.Spec PyProof.Rows L2 Nh
structure FunT (K:Frag) (x:Str) (st:Stmt) (f0:Addr) (fd:FuncData) (c T:Addr):Prop where
 ex:∃(oc:Value) (od:Option Addr) (kV doc pm:Value) (an:Option Addr) (ct:Value) (osl:Array (Option Value)),
  fd=fnOf x x (bY st) (a6 st) (ai st) .none kV doc pm an (.ref c) ct∧K.lookup f0=some ⟨oc,od,.func fd,osl⟩∧codeIn K (.ref c) x=true
 hd:codeHdIn K c T=true
 tp:hZ K T=some (x++".<locals>."++"<lambda>")
theorem JJ{w:World}{K:Frag}{mg:Str→Option Value}{base:Heap}{N:List Str}{a:Nat}{g:cZ}{f0 c:Addr}(D:FunT K x st f0 fd c T)(S:FnScope N ps (ai st))(hpa:ps.length=a)(hNn:N.length=n)(hps:a≤n)
  (hbody:∀(A:Around) (outer:List Env) (s:Shared) (H:Hp) (E:XK),Room k (A.deeper (PyProof.Rows.envOfC x (ai st) s.heap.objs.size f0 (.ref c)))→
   q_ (gf nz P w K mg base N x (ai st) f0 (.ref c) A outer s H E).nox (a6 st) g):FnOk P w K mg base nz (k+1) f0 fd ps (gY K (gB a n g)):=by
 subst hpa hNn
 obtain⟨oc,od,kV,doc,pm,an,ct,osl,rfl,lk,hcd⟩:=D.ex
 refine vR lk hcd S (fun vs H Q E h=>?_) (fun A outer s H vs Q E hr h=>?_)
 ·obtain⟨ds,r,e,rp,_⟩:=h
  unfold gB at e
  split at e
  ·rename_i hl
   rw[rp.len];exact hl
  ·cases e
 obtain⟨ds,r,e,rp,q⟩:=h
 unfold gB at e
 split at e
 ·rename_i hl
  refine⟨_,(hbody A outer s H E hr).nox,?_⟩
  obtain⟨⟨E',fl⟩,e1,e⟩:=Za.mp e
  refine⟨H,cI N.length ds,[],[],E',fl,⟨H,[],jR rp (by omega)⟩,rfl,e1,?_⟩
  cases fl with
  |nx=>
   cases e
   rintro σ' H' ⟨F',A',fr'⟩
   exact q _ _ (fr'.bf.trans fr'.fh) .non
  |bk=>cases e
  |ct=>cases e
  |rt r'=>
   rintro σ' v H' ⟨F',A',fr'⟩
   obtain⟨s1,s2⟩:=fr'.resultO e
   exact q v H' s1 s2
 ·cases e
end PL
namespace PL
open PySem PySem.Spec PyProof.Rows L2 Nh
def Hr(W:Value→Shared→Prop)(P:Program)(w:World)(K:Frag)(mg:Str→Option Value)(base:Heap)(N:List Str)(qual:Str)(scope:Scope)(f:Addr)(cd:Value)(cl:List (Str×Addr))(A:Around)(outer:List Env)(s:Shared)(H:Hp):Cx where
 prog:=P
 w:=w
 K:=K
 mg:=mg
 base:=base
 A:=A.deeper (envX qual scope s.heap.objs.size f cd cl)
 N:=N
 s₀:=s
 H₀:=H
 env:=envX qual scope s.heap.objs.size f cd cl
 outer:=outer
 stack:=envX qual scope s.heap.objs.size f cd cl::outer
 ex:=[]
 calm:=true
 fn:=fun _=>false
 pn:=[]
 xe:=W
section
variable {W:Value→Shared→Prop} {P:Program} {w:World} {K:Frag} {mg:Str→Option Value} {base:Heap} {N:List Str} {qual:Str} {scope:Scope} {f:Addr} {cd:Value} {cl:List (Str×Addr)} {A:Around} {outer:List Env} {s:Shared} {H:Hp} {σ:L2.St}
structure LamIn (N:List Str) (scope:Scope) (cl:List (Str×Addr)) (σ:L2.St) (H:Hp) (h:Heap):Prop where
 cell:∀x c,cl.lookup x=some c→(∃v,h.IsCell c v)∧H c=none
 inj:∀x y c,cl.lookup x=some c→cl.lookup y=some c→x=y
 has:∀x,(scope.names.lookup x=some .cell∨scope.names.lookup x=some .free)→∃c,cl.lookup x=some c
 val:∀(i:Nat) x v,N[i]? =some x→σ[i]? =some (some v)→scope.names.lookup x=some .free∧∃u c,RelV v u∧cl.lookup x=some c∧h.IsCell c (some u)
 len:σ.length=N.length
theorem LamIn.keeps(L:LamIn N scope cl σ H h)(k:∀b o,h.get? b=some o→h'.get? b=some o):LamIn N scope cl σ H h':=
 ⟨fun x c e=>let ⟨⟨v,o,ho,hd⟩,n⟩:=L.cell x c e;⟨⟨v,o,k _ _ ho,hd⟩,n⟩,L.inj,L.has,fun i x v e1 e2=>let ⟨z,u,c,r,e,o,ho,hd⟩:=L.val i x v e1 e2;⟨z,u,c,r,e,o,k _ _ ho,hd⟩,L.len⟩
theorem Db{h₁:Heap}{m:Str→Option Value}(sk:scope.kind=.function)(hd:A.handled=none)(e0:Env0 P w K mg base A outer s H)(L:LamIn N scope cl σ H s.heap)
  (hns:h₁.Ns s.heap.objs.size m) (hk:∀b o,s.heap.get? b=some o→h₁.get? b=some o):Inv (Hr W P w K mg base N qual scope f cd cl A outer s H) [] σ H {s with heap:=h₁,toks:=tk}:=by
 have noA:∀b:Addr,b∉(Hr W P w K mg base N qual scope f cd cl A outer s H).ex:=fun b z=>absurd (show b∈([]:List Addr)from z) (by simp)
 have L1:=L.keeps hk
 refine⟨⟨e0.mod,sk,rfl,rfl,eD _,L.inj,L.has,fun y c z _=>(nomatch z),fun _=>hd,Around.frames_deeper e0.frames,.inr ⟨rfl,rfl⟩,fun b z=>absurd z (noA b),e0.bs,e0.bsz,fun b _ _=>noA b,fun b z=>absurd z (noA b),e0.funs,e0.frf,e0.tab⟩,
  rfl,e0.bare,Un.kept hk,⟨_,hns,fun i y v h1 h2 h3=>?_⟩,fun y c h=>(L1.cell y c h).1,e0.hok.fresh (eD _),fun y c h=>(L.cell y c h).2,fun p hp=>absurd (show p∈([]:List (Addr×Obj))from hp) (by simp),e0.hok.kept hk,L.len⟩
 obtain⟨z,u,c,r,e,o⟩:=L1.val i y v h1 h2
 exact⟨u,r,.inr ⟨.inr z,c,e,o⟩⟩
def Hs(P:Program)(w:World)(K:Frag)(A:Around)(outer:List Env)(H:Hp)(fa:Addr)(n:Str)(s:Shared):Prop:=
 ∀W:Value→Shared→Prop,(∀C H' ea s' a0 B,nsIn K mainGlobals n=some (some (.ref C))→Same H H'→s'.os=s.os→AllBare s'.gens→FlyC H' B outer ea (.ref C) a0 s'.heap→HOk P w H' B→UnB (gb outer) H H' s.heap B s'.heap→W (.ref ea) s')→
  wpAny (model P w) A (call (.ref fa) [] []) (fun _ _=>False) W s
theorem Bk{name:Str}{r:List PyData→Option Str}{es:List Expr}{g:lM}{ctv:Value}{n:Str}
  (D:OwnR P w K mg base k x ps (qC K r)) (hr:Room (k+1) A) (e0:Env0 P w K mg base A outer s H) (L:LamIn N scope cl (dE N vs) H s.heap) (rp:RpA K H vs ds) (hn:ds.length≤N.length)
  (ho:s.heap.get? f=some (kla_obj name qual params (.Call (.Name x p) (e::es) [] pos) scope cl pm c' ctv)) (hcd:s.heap.CodeRec (.ref c') qual)
  (ha:∀s:Shared,AX (Hr (fun _ _=>False) P w K mg base N qual scope f (.ref c') cl A outer s H) (e::es) m g) (eg:cB r g (cI N.length ds)=some (n,E'))
  (hbind:bindArgs (kla_fn name qual params (.Call (.Name x p) (e::es) [] pos) scope cl pm (.ref c') ctv) ⟨[],[]⟩=pure [])
  (sg:scope.names.lookup x=some .globalImplicit) (sk:scope.kind=.function) (hco:scope.isCoroutine=false) (hgen:scope.isGenerator=false) (hcell:∀x∈scope.names,x.2≠ .cell) (hdb:(x == ("__debug__":Str))=false)
  (he:∀env,starEach (e::es) env=(false,eval e env)::starEach es env) (hpl:∀env,(backTo pos (starEach es env)).any (·.1)=false):Hs P w K A outer H f n s:=by
 intro W k1
 have hroom:A.depth < recursionLimit:=by have:=hr.dp;omega
 have lim:s.heap.NoLimit:=e0.mod.nolimit.keeps fun b o e=>(e0.bs b o e).1
 refine wpAny_call (PySem.W.kla_callFunE hroom ho rfl hco hgen rfl hcd ?_)
 rw[hbind]
 refine zz1 (wpAny_newFunctionEnv hcell (fun y hy=>(nomatch hy)) (fun h₁ hns hsb=>⟨lim.fresh _ hsb,PySem.W.kla_codeExpr ?_⟩) sk)
 have hk₁:∀b o,s.heap.get? b=some o→h₁.get? b=some o:=fun b o e=>hsb.extBut b o (eU (eI e)) (eT _ e)
 have IL:=fun W'=>Db (W:=W') (P:=P) (w:=w) (K:=K) (mg:=mg) (base:=base) (qual:=qual) (f:=f) (cd:=.ref c') (tk:=s.toks+([]:List (Str×Value)).length) sk hr.hd e0 L hns hk₁
 refine zz2 (g7 (X:=Hr _ P w K mg base N qual scope f (.ref c') cl A outer s H) (es:=es) D (hr.deeper _) sg (ha s) hdb (he _) (hpl _) (IL (fun e' s'=>wpAny (model P w) (A.deeper (envX qual scope s.heap.objs.size f (.ref c') cl)) (leaving (envX qual scope s.heap.objs.size f (.ref c') cl) e') (fun _ s''=>W e' s'') (fun e'' s''=>W e'' s'') s')) (B:=H) ⟨H,[],jR rp hn⟩ eg fun C H' ns ⟨F',A',fr'⟩=>?_) (fun _ _ z=>z.elim) fun _ _ z=>z
 intro H1 s1 ea s' a0 B I1 os bare fl hok u
 refine og I1.ok.frames rfl fl fun h2 x1 x2=>?_
 exact k1 C H' ea _ a0 B ns (fr'.bf.trans fr'.fh) (os.trans I1.os) bare x1 hok (UnB.out I1 rfl (u.on fl.2.2.1 x2))
end
end PL
namespace PL
open PySem PySem.Spec PyProof.Rows L2 Nh
theorem Ht{w:World}{K:Frag}{mg:Str→Option Value}{base:Heap}{f:Addr}{name:Str}{kV ct:Value}{od:Option Addr}
   {N:List Str} (lk:K.lookup f=some ⟨oc,od,.func (fnOf name qual params body scope dV kV doc pm an cdv ct),osl⟩) (hcd:codeIn K cdv qual=true) (S:FnScope N ps scope)
  {A:Around} {outer:List Env} {s:Shared}  {args:Args}   {Q:VK} (hr:Room (k+1) A) (e0:Env0 P w K mg base A outer s H) (hb:BindsTo s (fnOf name qual params body scope dV kV doc pm an cdv ct) args (ps.zip us)) (r:Vals vs us) (hl:vs.length=ps.length)
  (hbody:∀s1,(∀b o,s.heap.get? b=some o→s1.heap.get? b=some o)→Inv (gf nz P w K mg base N qual scope f cdv A outer s H E0).nox [] (dE N vs) H s1→Room k (A.deeper (envOfC qual scope s.heap.objs.size f cdv))→
   wpAny (model P w) (A.deeper (envOfC qual scope s.heap.objs.size f cdv)) (execs body (envOfC qual scope s.heap.objs.size f cdv)) (SP (gf nz P w K mg base N qual scope f cdv A outer s H E0).nox [] {nx:=fun _ H'=>Q .non H',rt:=Q}) (fun _ _=>False) s1):
  codeAny (model P w) A (.call (.ref f) args) (CR nz outer P w H s Q E0) s:=by
 have KX:K.In s.heap:=e0.mod.kin.keeps fun b o e=>(e0.bs b o e).1
 have lim:s.heap.NoLimit:=e0.mod.nolimit.keeps fun b o e=>(e0.bs b o e).1
 refine codeAny_call_function hr.depth (KX _ _ lk) rfl S.co S.gen rfl (codeRec_of KX hcd) (hb _ _ _ _ ?_)
 refine wpAny_newFunctionEnv_cells S.kind (fun⟨n,v⟩ hy=>(S.par n (List.of_mem_zip hy).1).imp id fun q=>⟨q,cellsFrom_some _ _ _ (.inl q)⟩) fun env he s1 x=>?_
 subst he
 refine⟨lim.keeps x.toInCall.keep,codeAny_func ?_⟩
 refine zz2 (hbody s1 x.toInCall.keep ((lP (CX:=nz) (E:=E0) S hr.hd e0 hl r x).wish _) (hr.deeper _)) (fun fl s' hs=>?_) fun e s' hs=>hs.elim
 cases fl with
 |ret u=>obtain⟨v,σ',H',J,rv,q⟩:=hs;exact⟨v,H',J.os,J.bare,J.base,J.hok,rv,q⟩
 |next=>obtain⟨σ',H',J,q⟩:=hs;exact⟨V.non,H',J.os,J.bare,J.base,J.hok,rfl,q⟩
 |brk=>obtain⟨_,_,_,q⟩:=hs;exact q.elim
 |cont=>obtain⟨_,_,_,q⟩:=hs;exact q.elim
theorem FW{en:Str}{b₀:Stmt}{suite:List Stmt}{ok:List Str}{i:Nat}{hs:cZ}(hx:X.xe=fun _ _=>False)(hN:X.N.Nodup)(hex:X.ex=[])(hst:X.stack=X.env::X.outer)(hfr:X.env.frame=some X.env.locals)(hg:Gl X cn)(hm:X.mg cn=some (.ref CH))
  (hok:∀n∈ok,∀C,nsIn X.K mainGlobals n=some (some (.ref C))→exmOne X.K (.ref C) (.ref CH)=some true) (hh:∀ea oe C ex,ChainP ((ea,oe)::ex)→q_ (hX X ea oe C ex) (b₀::suite) hs) (hi:X.N[i]? =some en) (hk:X.env.scope.names.lookup en=some .local) (hdb:(cn == ("__debug__":Str))=false)
   {s:Shared} {σ:L2.St} {B:Hp}   {n:Str} {sv:Sl} (I:Inv X pins σ H s) (fr:Frm X.K B σ H E [] [])
  (hr:∀W:Value→Shared→Prop,(∀C H' ea s' a0 Bb,nsIn X.K mainGlobals n=some (some (.ref C))→Same H H'→s'.os=s.os→AllBare s'.gens→FlyC H' Bb X.stack ea (.ref C) a0 s'.heap→HOk X.prog X.w H' Bb→UnB (gb X.stack) H H' s.heap Bb s'.heap→W (.ref ea) s')→wpAny (model X.prog X.w) X.A (execs body X.env) (fun _ _=>False) W s)
  (hc:n∈ok∧i < E.length) (eh:hs (E.set i (.sh (FL n)))=some (E2,.rt sv)) (q:∀σ9 v H9,Frm X.K B σ9 H9 E2 [v] [sv]→D.rt v H9):
  wpAny (model X.prog X.w) X.A (exec (.Try body [.ExceptHandler (some (.Name cn np)) (some en) (b₀::suite) hpos] [] [] pos) X.env) (SP X pins D) X.xe s:=by
 refine wpAny_Try_except (zz2 (hr (fun e s₁=>wpAny (model X.prog X.w) X.A (noteFrame e X.env) (fun _ s₂=>wpAny (model X.prog X.w) X.A (setFlight e none) (fun _ s₃=>wpAny (model X.prog X.w) X.A (handleBy e X.env [.ExceptHandler (some (.Name cn np)) (some en) (b₀::suite) hpos]) (SP X pins D) X.xe s₃) X.xe s₂) X.xe s₁) fun C H' ea s' a0 Bb ns gg os bare fly hokB u=>?_) (fun _ _ z=>z.elim) fun _ _ z=>z)
 have ff:s'.heap.FunFrames Bb X.stack:=fly.2.2.1
 have fly':FlyC H' Bb (X.env::X.outer) ea (.ref C) a0 s'.heap:=hst▸fly
 have invAt:∀h5,Bb.StaysIn h5→s'.heap.UpToSlots h5→Inv X pins σ H' {s' with heap:=h5}:=fun h5 st k=>by
  have u2:UnB (gb X.stack) H H' s.heap Bb h5:=u.on ff k
  exact I.call' (s':={s' with heap:=h5}) os (u2.un st I.stkFree) (hokB.kept fun b o e=>st b o e) bare fun b z=>(nomatch z)
 refine jW (by rw[I.ok.frames,hst]) hfr fly' fun h4 held4 k4=>?_
 refine uM held4 fun h5 fly5 k5=>?_
 have I5:=invAt h5 fly5.1 (k4.trans k5)
 obtain⟨ob,hob,hobc⟩:=fly5.there
 have Z5:eV ea C h5:=⟨ob,hob,hobc⟩
 refine wpAny_handleBy_cons (codeAny_handlers_test (fi (X:=Gr X ea) (lm I5) hg hm ?_ hdb)) (by intro q;cases q)
 refine(PySem.W.exm_one (I5.kIn) (kt Z5) (hok n hc.1 C ns)).here ?_
 refine codeAny_handlers_suite_as ?_
 refine lj fly5 fun h6 fly6 k6=>?_
 have I6:=invAt h6 fly6.1 ((k4.trans k5).trans k6)
 obtain⟨oe,vs,hoe,hoec,hoed,_⟩:=fly6.first
 have nB:Bb.get? ea=none:=fly6.2.1
 have old:∀b o,s.heap.get? b=some o→b≠ea:=fun b o eb z=>by
  subst z
  by_cases hf:b∈gb X.stack
  ·obtain⟨_,o',ho',hd⟩:=(show h6.FunFrames Bb X.stack from hst▸fly6.2.2.1).mem hf
   rw[hoe]at ho'
   cases ho'
   exact hd vs hoed
  ·obtain⟨o',ho'⟩:=u.there b o eb hf
   rw[nB]at ho'
   cases ho'
 have hn6:H' ea=none:=by
  cases q:H' ea with
  |none=>rfl
  |some o=>
   obtain⟨z,e⟩:=mH (hokB ea o q)
   rw[nB]at e
   cases e
 have hs0:X.s₀.heap.get? ea=none:=by
  cases q:X.s₀.heap.get? ea with
  |none=>rfl
  |some o=>
   obtain⟨o',z⟩:=I.base.there ea o q (by rw[hex];exact fun z=>(nomatch z))
   exact absurd rfl (old ea o' z)
 have hnew:EaNew X ea:=⟨hs0,fun xs z=>(nomatch hn6.symm.trans (I6.base.tups ea xs z)),fun o u z=>(nomatch hn6.symm.trans (I6.base.frzs ea o u z)),fun q z=>(nomatch hn6.symm.trans (I6.base.tbls ea q z))⟩
 obtain⟨ps,hcp,cv,r1,r2⟩:=fly6.2.2.2.2
 have hchn:ChainP ((ea,oe)::ps):=by
  obtain⟨o,ws,ho,hd,h2⟩:=cv
  rw[hoe]at ho
  cases ho
  exact⟨⟨ws,hd,h2⟩,r2,hcp⟩
 have I7:Inv X pins σ (upd H' ea (.frz oe (.ext (eV ea C)))) {s' with heap:=h6}:=by
  refine yE I6 hn6 ?_ ?_ (fun x c e=>?_) (fun p hp=>?_) ?_
  ·cases q:X.s₀.heap.get? ea with
   |none=>rfl
   |some o=>
    obtain⟨o',z⟩:=I.base.there ea o q (by rw[hex];exact fun z=>(nomatch z))
    exact absurd rfl (old ea o' z)
  ·obtain⟨_,⟨o,_,_,ho,_⟩,_⟩:=I.loc
   exact old _ o ho
  ·obtain⟨v,o,ho,_⟩:=I.cell x c e
   exact old _ o ho
  ·exact old _ _ (I.pin p hp).1
  ·exact⟨hoe,⟨oe,hoe,hoec⟩,⟨oe,hoe⟩,fun h1 h2 ⟨o,z,c⟩ k=>⟨o,k o z,c⟩⟩
 have pins7:∀p∈ps,sj X (upd H' ea (.frz oe (.ext (eV ea C)))) h6 p:=fun p hp=>by
  obtain⟨b1,b2⟩:=r1 p hp
  have g6:=fly6.1 p.1 p.2 b1
  obtain⟨ws,hd,_⟩:=ip hcp hp
  refine⟨g6,(aF (r2 p hp)).trans b2,fun z=>?_,fun z=>?_,fun v z=>by rw[hd]at z;cases z⟩
  ·obtain⟨_,⟨o,_,_,ho,hdo,_⟩,_⟩:=I7.loc
   rw[←z,g6]at ho
   cases ho
   rw[hd]at hdo
   cases hdo
  ·have hz:p.1∈gb X.stack:=by rw[hst];unfold gb;rw[List.filterMap_cons,hfr];exact gW _ z
   obtain⟨_,o',ho',hdn⟩:=(show h6.FunFrames Bb X.stack from hst▸fly6.2.2.1).mem hz
   rw[g6]at ho'
   cases ho'
   exact hdn ws hd
 refine nv (X:=X) (Hh I7 pins7) hN hi (.inl hk) (v:=.ref ea) rfl (fun s8 I8p=>?_) (.inr hk)
 obtain⟨I8,hp8⟩:=Hi I8p
 have g:Same H' (upd H' ea (.frz oe (.ext (eV ea C)))):=fun b o e=>by rw[aF (bu e hn6)];exact e
 obtain⟨F0,A0,fr0⟩:=fr
 have fr1:=fr0.grow gg
 have fr2:=fr1.grow g
 have nA:ea∉A0:=fun z=>by
  rcases fr1.mutA ea z with⟨_,w⟩ |⟨_,w⟩ <;> rw[hn6]at w <;> cases w
 have fr3:=fr2.push (v:=.ref ea) (s:=.sh (FL n)) ⟨rfl,_,rfl,.exc (by show(if ea∈A0 then none else _)=_;rw[if_neg nA];exact upd_same) ns⟩
 obtain⟨A3,fr4⟩:=fr3.store rfl (fun _ z=>(nomatch z)) hc.2
 have q8:=hh ea oe C ps hchn pins s8 _ _ {nx:=fun _ _=>False,bk:=fun _ _=>False,ct:=fun _ _=>False,rt:=fun v H9=>∃σ9,Frm X.K B σ9 H9 E2 [v] [sv]} (CS I8 hnew upd_same hp8) ⟨B,_,[],[],E2,.rt sv,⟨_,A3,fr4⟩,rfl,eh,fun σ9 v H9 f=>⟨σ9,f⟩⟩
 refine zz2 q8 (fun f s9 z=>?_) fun _ _ z=>z.elim
 cases f with
 |next=>obtain⟨_,_,_,z⟩:=z;exact z.elim
 |brk=>obtain⟨_,_,_,z⟩:=z;exact z.elim
 |cont=>obtain⟨_,_,_,z⟩:=z;exact z.elim
 |ret uu=>
  obtain⟨v,σ9,H9,I9,rv,σx,fx⟩:=z
  have I9:Inv X pins σ9 H9 s9:=AU I9 I.ok hnew
  exact AV I9 hN hi hk fun s10 I10=>⟨v,_,H9,I10,rv,q _ v H9 fx⟩
end PL
namespace PL
open PySem PySem.Spec PyProof.Rows L2 Nh
structure OwnF (P:Program) (w:World) (K:Frag) (mg:Str→Option Value) (base:Heap) (k:Nat) (x:Str) (ok:List Str) (c:Str→PyData→Option Sl):Prop where
 ex:∃(f:Addr) (fd:FuncData) (ps:List Str),ps.length=2∧Binds K fd ps []∧mg x=some (.ref f)∧keepIn K (.ref f)=true∧
  ∀(A:Around) (outer:List Env) (s:Shared) (H:Hp) (us:List Value) (fa:Addr) (o:Obj) (fd':FuncData) (dv:V) (d:PyData) (n:Str) (sv:Sl) (Q:VK),Room (k+1) A→Env0 P w K mg base A outer s H→BindsTo s fd ⟨us,[]⟩ (ps.zip us)→Vals [.ref fa,dv] us→Rp K H dv d→
   s.heap.get? fa=some o→o.data=.func fd'→(∀env s1,Env0 P w K mg base (A.deeper env) (env::outer) s1 H→Room k (A.deeper env)→(∀b o,s.heap.get? b=some o→s1.heap.get? b=some o)→Hs P w K (A.deeper env) (env::outer) H fa n s1)→n∈ok→c n d=some sv→
   (∀v H',Same H H'→rG K H H' v sv→Q v H')→codeAny (model P w) A (.call (.ref f) ⟨us,[]⟩) (CR nz outer P w H s Q E0) s
def IV(n i:Nat)(hs:cZ):Str→PyData→Option Sl:=fun nm d=>if 2≤n∧i < n then match hs ((.no:: .sh d::List.replicate (n - 2) .no).set i (.sh (FL nm)))with
 |some (_,.rt r)=>fA r
 |_=>none
 else none
theorem FX{K:Frag}{N:List Str}{fv dv:V}(r:Rp K H dv d):FrF K H H [] (L2.dE N [fv,dv]) H (.no:: .sh d::List.replicate (N.length - 2) .no) [] []:=by
 refine⟨Same.refl _,Same.refl _,jO H,?_,List.nodup_nil,fun a ha=>(by cases ha),rfl,?_⟩
 ·show SAll _ (some fv::some dv::List.replicate (N.length - 2) none) _ []
  refine .cons (A:=[]) rfl (.cons (A:=[]) ⟨rfl,_,rfl,r⟩ ?_)
  generalize N.length - 2=k
  generalize L2.dE N [fv,dv]=τ
  induction k with
  |zero=>exact .nil
  |succ k ih=>exact .cons (A:=[]) rfl ih
 ·intro s hs
  rcases Zai.mp hs with rfl |hs
  ·rfl
  rcases Zai.mp hs with rfl |hs
  ·rfl
  rw[(List.mem_replicate.mp hs).2]
  rfl
theorem IW{w:World}{K:Frag}{mg:Str→Option Value}{base:Heap}{dn due en:Str}{b₀:Stmt}{suite dO:List Stmt}{N:List Str}{i:Nat}{hs:cZ}{ok:List Str}{tpos:Pos}(D:Def K mg x st [dn,due])(S:FnScope N [dn,due] (ai st))(hNn:N.length=n)
  (hb:a6 st= .Try [.Expr (.Call (.Name dn p1) [] [] p2) p3] [.ExceptHandler (some (.Name cn np)) (some en) (b₀::suite) hpos] [] [] tpos::dO)
  (hm:mg cn=some (.ref CH)) (hok:∀n∈ok,∀C,nsIn K mainGlobals n=some (some (.ref C))→exmOne K (.ref C) (.ref CH)=some true)
  (hbody:∀(f:Addr) (cdv:Value) (A:Around) (outer:List Env) (s:Shared) (H:Hp),Room k (A.deeper (PyProof.Rows.envOfC x (ai st) s.heap.objs.size f cdv))→∀ea oe C ex,ChainP ((ea,oe)::ex)→q_ (hX (gf nz P w K mg base N x (ai st) f cdv A outer s H E0).nox ea oe C ex) (b₀::suite) hs)
  (hg:(ai st).names.lookup cn=some .globalImplicit:=by rfl) (hi:N[i]? =some en:=by rfl) (hk:(ai st).names.lookup en=some .local:=by rfl) (h0:N[0]? =some dn:=by rfl) (hk0:(ai st).names.lookup dn=some .local:=by rfl) (hdb:(cn == ("__debug__":Str))=false:=by decide) (hdb2:(dn == ("__debug__":Str))=false:=by decide)
  (hsw:∀env,swapsWith (.Call (.Name dn p1) [] [] p2) none p3.line env=pure false:=by intro _;rfl):OwnF P w K mg base k x ok (IV n i hs):=by
 subst hNn
 obtain⟨f,fd,F,mx,b⟩:=D.ex
 have kp:=F.kp
 obtain⟨oc,od,kV,doc,pm,an,cdv,ct,osl,rfl,lk,hcd⟩:=F.ex
 refine⟨f,_,_,rfl,b,mx,kp,fun A outer s H us fa o fd' dv d nm sv Q hr e0 bd rv rp ho hfd deed hn hc q=>?_⟩
 refine Ht lk hcd S hr e0 bd rv rfl fun s1 keep I hr1=>?_
 unfold IV at hc
 split at hc
 rotate_left
 ·cases hc
 rename_i hlen
 split at hc
 rotate_left
 ·cases hc
 rename_i E2 r eh
 rw[hb]
 refine wpAny_execs_cons (zz2 (FW (X:=(gf nz P w K mg base N x (ai st) f cdv A outer s H E0).nox) (ok:=ok) (D:={nx:=fun _ _=>False,bk:=fun _ _=>False,ct:=fun _ _=>False,rt:=Q}) rfl S.nd rfl rfl rfl hg hm hok (hbody f cdv A outer s H hr1) hi hk hdb I ⟨H,[],FX rp⟩ (fun W kk=>?_) ⟨hn,by simp;omega⟩ eh fun σ9 v H9 ⟨F9,A9,f9⟩=>?_) (fun fl s' z=>?_) fun _ _ z=>z)
 ·obtain⟨m,hns,hl⟩:=I.loc
  obtain⟨u,ru,lo⟩:=hl 0 dn (.ref fa) h0 rfl (.inl hk0)
  cases(show u=Value.ref fa from ru)
  have hm0:m dn=some (.ref fa):=by
   rcases lo with⟨_,z⟩ |⟨z,_⟩
   ·exact z
   ·rcases z with z |z <;> exact absurd ((show(ai st).names.lookup dn=_ from z).symm.trans hk0) (by decide)
  refine wpAny_execs_cons (zz2 (wpAny_Expr_any (Q:=fun _ _=>False) (zz6 (wpAny_Name (wpAny_loadName_local S.kind hk0 hns hm0 (Calls.callWith_function (evalArgs_nil3 ⟨⟨keep _ _ ho,hfd⟩,?_⟩))) hdb2)) I.quiet (hsw _)) (fun _ _ z=>z.elim) fun _ _ z=>z)
  exact deed _ s1 I.env0 hr1 keep W kk
 ·obtain⟨s1,s2⟩:=f9.resultO hc
  exact q v H9 s1 s2
 ·cases fl with
  |next=>obtain⟨_,_,_,z⟩:=z;exact z.elim
  |brk=>obtain⟨_,_,_,z⟩:=z;exact z.elim
  |cont=>obtain⟨_,_,_,z⟩:=z;exact z.elim
  |ret u=>exact z
end PL
namespace PL
open PySem PySem.Spec PyProof.Rows L2 Nh
structure LamOk (X:Cx) (scope:Scope) (cl:List (Str×Addr)) (N:List Str) (js:List Nat):Prop where
 clos:closureFor scope X.env=pure cl
 same:∀x c,cl.lookup x=some c→X.env.cells.lookup x=some c
 has:∀x,(scope.names.lookup x=some .cell∨scope.names.lookup x=some .free)→∃c,cl.lookup x=some c
 len:js.length=N.length
 from_:∀(i:Nat) x,N[i]? =some x→∃j,js[i]? =some j∧X.N[j]? =some x∧scope.names.lookup x=some .free∧(X.env.kindOf x=some .cell∨X.env.kindOf x=some .free)∧∃c,cl.lookup x=some c
theorem gD{N:List Str}{js:List Nat}(clos:closureFor scope X.env=pure (jb scope X.env):=by rfl)(same:(scope.names.filter fun p=>p.2 ==.free).all (fun p=>(X.env.cells.lookup p.1).isSome)=true:=by rfl)
  (has:scope.names.all (fun y=> !(y.2 ==.cell||y.2 ==.free)||((jb scope X.env).lookup y.1).isSome)=true:=by rfl) (len:js.length=N.length:=by rfl)
  (fr:(js.zip N).all (fun p=>X.N[p.1]? == some p.2&&scope.names.lookup p.2 == some .free&&(X.env.kindOf p.2 == some .cell||X.env.kindOf p.2 == some .free)&&((jb scope X.env).lookup p.2).isSome)=true:=by rfl):LamOk X scope (jb scope X.env) N js:=by
 refine⟨clos,fun x c e=>?_,fun x h=>?_,len,fun i x hx=>?_⟩
 ·have hm:=PySem.mem_of_lookup e
  unfold jb at hm
  obtain⟨p,hp,ep⟩:=Zaz.mp (List.mem_reverse.mp hm)
  obtain⟨c',ec⟩:=Zbf.mp (List.all_eq_true.mp same _ hp)
  injection ep with e1 e2
  subst e1
  rw[ec]at e2 ⊢
  exact congrArg some e2
 ·have key:∀k,scope.names.lookup x=some k→(k == NameKind.cell||k == NameKind.free)=true→∃c,(jb scope X.env).lookup x=some c:=fun k h hk=>by
   have:=List.all_eq_true.mp has _ (PySem.mem_of_lookup h)
   simp only[hk,Bool.not_true,Bool.false_or]at this
   exact Zbf.mp this
  rcases h with h |h
  ·exact key _ h rfl
  ·exact key _ h rfl
 ·have hi:i < N.length:=(Zar.mp hx).1
  have ej:js[i]? =some (js[i]'(by omega)):=oU (by omega)
  have hz:(js.zip N)[i]? =some (js[i]'(by omega),x):=by rw[List.getElem?_zip_eq_some];exact⟨ej,hx⟩
  have:=List.all_eq_true.mp fr _ (List.mem_of_getElem? hz)
  simp only[qZ,Bool.or_eq_true,beq_iff_eq]at this
  exact⟨_,ej,this.1.1.1,this.1.1.2,this.1.2,Zbf.mp this.2⟩
def vals(E:List Sl):List Nat→Option (List PyData)
 |[]=>some []
 |j::js=>((E[j]?).bind Sl.val).bind fun d=>(vals E js).map fun ds=>d::ds
theorem FrF.vals{K:Frag}{B:Hp}{A:List Addr}{σ:L2.St}(h:FrF K B F A σ H E xs Xs):∀{js:List Nat} {ds:List PyData},PL.vals E js=some ds→∃vs,RpA K H vs ds∧vs.length=js.length∧∀i j:Nat,js[i]? =some j→∃v,vs[i]? =some v∧σ[j]? =some (some v)
 |[],ds,e=>by cases e;exact⟨[],.nil,rfl,fun i j z=>nomatch z⟩
 |j::js,ds,e=>by
  unfold PL.vals at e
  obtain⟨d,e1,e⟩:=Za.mp e
  obtain⟨ds',e2,e⟩:=Zab.mp e
  cases e
  obtain⟨s,es,ev⟩:=Za.mp e1
  obtain⟨o,A1,eo,hs⟩:=h.var es
  obtain⟨v,rfl,r,_⟩:=hs.val h.fh ev
  obtain⟨vs,r2,l2,f2⟩:=h.vals e2
  refine⟨v::vs,.cons r r2,by simp[l2],fun i k z=>?_⟩
  cases i with
  |zero=>cases z;exact⟨v,rfl,eo⟩
  |succ i=>exact f2 i k z
def jf(js:List Nat)(n:Nat)(r:List PyData→Option Str)(g:lM)(ok:List Str)(c:Str→PyData→Option Sl)(due:Int):bj:=fun E=>(vals E js).bind fun ds=>(cB r g (cI n ds)).bind fun a=>if a.1∈ok then (c a.1 (.int due)).map fun s=>(s,E)else none
section
variable {X:Cx} {k kg:Nat} {x gx:Str} {ok ps N:List Str} {cF:Str→PyData→Option Sl} {r:List PyData→Option Str} {e:Expr} {es:List Expr} {g:lM} {m m':Bool} {p gp gpos pos lp dp:Pos} {j:Nat} {due:Int} {params:Arguments} {scope:Scope} {cl:List (Str×Addr)} {js:List Nat} {c P:Addr}
theorem jg(F:OwnF X.prog X.w X.K X.mg X.base k x ok cF) (hcode:X.env.code=.ref c) (hQ:hZ X.K P=some (X.env.qual++"<lambda>")) (hC:codeHdIn X.K c P=true) (hr:Room (k+1) X.A) (hg:Gl X x) (D:OwnR X.prog X.w X.K X.mg X.base kg gx ps (qC X.K r)) (hkg:kg+1≤k) (L:LamOk X scope cl N js)
  (ha:∀(fa c':Addr) (A:Around) (outer:List Env) (s:Shared) (H:Hp),AX (Hr (fun _ _=>False) X.prog X.w X.K X.mg X.base N (X.env.qual++"<lambda>") scope fa (.ref c') cl A outer s H) (e::es) m' g)
  (hdef:defaultsOf params X.env=([],[]):=by rfl) (hbind:∀(qual:Str) (pm cd ctv:Value),bindArgs (kla_fn "<lambda>" qual params (.Call (.Name gx gp) (e::es) [] gpos) scope cl pm cd ctv) ⟨[],[]⟩=pure []:=by intros;rfl)
  (sg:scope.names.lookup gx=some .globalImplicit:=by rfl) (sk:scope.kind=.function:=by rfl) (hco:scope.isCoroutine=false:=by rfl) (hgen:scope.isGenerator=false:=by rfl) (hcell:∀x∈scope.names,x.2≠ .cell:=by decide) (hdb:(gx == ("__debug__":Str))=false:=by decide) (hdbx:(x == ("__debug__":Str))=false:=by decide)
  (he:∀env,starEach (e::es) env=(false,eval e env)::starEach es env:=by intro _;rfl) (hpl:∀env,(backTo gpos (starEach es env)).any (·.1)=false:=by intro _;rfl)
  (he1:starEach [.Lambda params (.Call (.Name gx gp) (e::es) [] gpos) scope lp,.Constant (.int due) j dp] X.env=(false,eval (.Lambda params (.Call (.Name gx gp) (e::es) [] gpos) scope lp) X.env)::starEach [.Constant (.int due) j dp] X.env:=by rfl)
  (he2:backTo pos (starEach [.Constant (.int due) j dp] X.env)=[(false,eval (.Constant (.int due) j dp) X.env)]:=by rfl):
  EX X (.Call (.Name x p) [.Lambda params (.Call (.Name gx gp) (e::es) [] gpos) scope lp,.Constant (.int due) j dp] [] pos) false (jf js N.length r g ok cF due):=by
 intro pins s σ H Q I z
 obtain⟨B,E,xs,Xs,res,E',⟨F0,A0,fr⟩,_,e0,q⟩:=z
 obtain⟨ds,ev,e0⟩:=Za.mp e0
 obtain⟨⟨n,E1⟩,er,e0⟩:=Za.mp e0
 simp only at e0
 split at e0
 rotate_left
 ·cases e0
 rename_i hn
 obtain⟨sv,ec,e0⟩:=Zab.mp e0
 cases e0
 obtain⟨vs,rp,vl,vf⟩:=fr.vals ev
 obtain⟨f,fd,pF,hp2,hb,mx,kp,run⟩:=F.ex
 refine zz6 (fi I hg mx ?_ hdbx)
 have hT:H P=some (.tbl _):=I.tab P _ hQ
 obtain⟨pt,hps,ht,hit⟩:=I.hok P _ hT
 obtain⟨hgP,hbA⟩:=D7 I hps
 have C:=codeHd_of_K I.kIn hC
 have fin:∀(H3:Hp) (s3:Shared) (fa c':Addr) (pm ctv:Value),Inv X pins σ H3 s3→Same H H3→s3.heap.get? fa=some (kla_obj "<lambda>" (X.env.qual++"<lambda>") params (.Call (.Name gx gp) (e::es) [] gpos) scope cl pm c' ctv)→s3.heap.CodeRec (.ref c') (X.env.qual++"<lambda>")→
   wpAny (model X.prog X.w) X.A (spliced (backTo pos (starEach [.Constant (.int due) j dp] X.env))) (fun us s4=>X.K.In s4.heap∧wpAny (model X.prog X.w) X.A (call (.ref f) ([]++(.ref fa::us))) (EP X pins σ Q) X.xe s4) X.xe s3:=fun H3 s3 fa c' pm ctv I3 g3 ho hrec=>by
  rw[he2]
  refine Calls.spliced_cons (wpAny_Constant_int ?_)
  have I4:=I3.tok (s3.toks+1)
  refine Calls.spliced_nil ⟨I3.kIn,?_⟩
  have bd:=hb {s3 with toks:=s3.toks+1} [.ref fa,.int due s3.toks] I3.kIn hp2.symm
  refine wpAny_call (codeAny_mono (run X.A X.stack _ H3 [.ref fa,.int due s3.toks] fa _ _ (.int due) (.int due) n _ Q hr I4.env0 bd (.cons rfl (.cons ⟨_,rfl⟩ .nil)) (.int _) ho rfl (fun env s1 e01 hr1 keep=>?_) hn ec fun v H' gg rs=>q v H' ((fr.grow g3).told gg rs)) fun rr s' hq=>?_)
  ·have lam:LamIn N scope cl (dE N vs) H3 s3.heap:=by
    refine⟨fun y c e=>⟨I3.cell y c (L.same y c e),I3.freeC y c (L.same y c e)⟩,fun y z c e1 e2=>I3.ok.inj y z c (L.same y c e1) (L.same z c e2),L.has,fun i y v e1 e2=>?_,?_⟩
    ·obtain⟨jj,ej,en,k1,k2,cc,ecl⟩:=L.from_ i y e1
     obtain⟨v',ev',es'⟩:=vf i jj ej
     have hi:i < vs.length:=(Zar.mp ev').1
     have:v'=v:=by
      unfold L2.dE at e2
      rw[List.getElem?_append_left (by simpa using hi),wT,ev']at e2
      cases e2
      rfl
     subst this
     obtain⟨mm,_,hl⟩:=I3.loc
     obtain⟨u,ru,lk⟩:=hl jj y v' en es' (by
      rcases k2 with z |z
      ·exact .inr (.inl z)
      ·exact .inr (.inr z))
     refine⟨k1,u,cc,ru,ecl,?_⟩
     rcases lk with⟨z,_⟩ |⟨_,c2,e5,ic⟩
     ·rcases k2 with q |q
      ·rw[q]at z;cases z
      ·rw[q]at z;cases z
     ·rw[L.same y cc ecl]at e5
      cases e5
      exact ic
    ·unfold L2.dE
     have:=L.len
     simp
     omega
   exact Bk D (hr1.mono hkg) e01 (lam.keeps keep) (rp.same g3) (by rw[←rp.len,vl,L.len];exact eD _) (keep _ _ ho) (hrec.keeps keep) (fun s=>ha fa c' _ _ s H3) er (hbind _ _ _ _) sg sk hco hgen hcell hdb he hpl
  ·cases rr with
   |error er=>exact False.elim hq
   |ok fl=>
    cases fl with
    |ret u=>exact I4.after hq
    |next=>exact False.elim hq
    |brk=>exact False.elim hq
    |cont=>exact False.elim hq
 refine callWith_K (h₀:=X.base) I.ok.mod.kin kp ?_ he1 (by rw[he2];rfl)
 rw[he1]
 refine Calls.spliced_cons (PySem.W.kla_eval hdef ?_)
 cases hca:codeAmong lp pt.toList with
 |none=>
  refine PySem.W.kla_makeFunction L.clos I.ok.glob (I.mod.glob.keeps I.bk) hcode C hps ht hca hgP hbA fun c' ctv h' tk hx hge hlt hrec htb=>?_
  have I2:=pT (tk:=tk) I hT hps (fun b o hb e=>hx b o hb e) hge hrec htb
  have g:Same H (upd H c' (.own P)):=fz (I.hok.fresh hge) _
  have I3:=I2.kept (t':=tk) (fun b o eb=>eT (kla_obj "<lambda>" (X.env.qual++"<lambda>") params (.Call (.Name gx gp) (e::es) [] gpos) scope cl ((X.mg "__name__").getD .none) c' ctv) eb)
  exact fin _ _ _ _ _ _ I3 g (kh _ rfl) (hrec.keeps fun b o e=>eT _ e)
 |some cv=>
  obtain⟨c',rfl,ho,hrec⟩:=hit lp cv hca
  refine PySem.W.kla_makeFunctionHit L.clos I.ok.glob (I.mod.glob.keeps I.bk) hcode C hps ht hca hbA fun ctv h' tk hx hsz=>?_
  have I3:=I.kept (t':=tk) (fun b o eb=>eT (kla_obj "<lambda>" (X.env.qual++"<lambda>") params (.Call (.Name gx gp) (e::es) [] gpos) scope cl ((X.mg "__name__").getD .none) c' ctv) (hx b o eb))
  exact fin _ _ _ _ _ _ I3 (Same.refl _) (kh _ rfl) (hrec.keeps fun b o e=>eT _ (hx b o e))
end
end PL
namespace L2
open PySem PySem.Spec PyProof.Rows PL
def kA(X:Cx):Prop:=∃(ea:Addr) (oe:Obj) (u:HO) (L:List (Addr×Obj)),X.A.handled=some (.ref ea)∧X.H₀ ea=some (.frz oe u)∧ChainP ((ea,oe)::L)∧∀q∈L,q∈X.pn∨(X.s₀.heap.get? q.1=some q.2∧X.H₀ q.1=none∧q.1∉X.fs∧q.1∉X.ex)
theorem om{σ:St}{s:Shared}{u:HO}{L:List (Addr×Obj)}(I:Inv X pins σ H s)(h1:X.H₀ ea=some (.frz oe u))(h2:∀q∈L,q∈X.pn∨(X.s₀.heap.get? q.1=some q.2∧X.H₀ q.1=none∧q.1∉X.fs∧q.1∉X.ex)):∀q∈(ea,oe)::L,s.heap.get? q.1=some q.2:=fun q hq=>by
 rcases Zai.mp hq with z |z
 ·subst z
  exact(I.hok ea _ (I.base.frzs ea oe u h1)).1
 ·rcases h2 q z with m |⟨a,b,c,d⟩
  ·exact(I.pin q (wR _ m)).1
  ·exact I.base.keep q.1 q.2 a b c d
structure TurnL (P:Program) (w:World) (K:Frag) (tg:Expr) (J:It) (fp:List Addr) (it:Addr) (tn:Nat→Heap→Prop):Prop where
 mem:it∈fp
 obj:∀i h,tn i h→∀b∈fp,∃o,h.get? b=some o∧∀v,o.data≠ .cell v
 keep:∀i h h',tn i h→(∀b∈fp,∀o,h.get? b=some o→h'.get? b=some o)→tn i h'
 item:∀(X:Cx),X.prog=P→X.w=w→X.K=K→kA X→∀(i:Nat) (pins:List (Addr×Obj)) (s:Shared) (σ:St) (H:Hp) (E:Value→Shared→Prop),Inv X pins σ H s→(∀b∈fp,ki X pins H b)→tn i s.heap→J.go i H→
  wpAny (model P w) X.A (pyNext (.ref it)) (fun r s1=>∃u,r=some u∧
   wpAny (model P w) X.A (letOwnedTupleGo tg (.ref it) u) (fun _ s2=>∃x H',Inv X pins σ H' s2∧RelV x u∧J.yld i H x H'∧tn (i+1) s2.heap∧∀b∈fp,H' b=none) E s1) E s
 done:∀(X:Cx),X.prog=P→X.w=w→X.K=K→kA X→∀(i:Nat) (pins:List (Addr×Obj)) (s:Shared) (σ:St) (H:Hp) (E:Value→Shared→Prop),Inv X pins σ H s→(∀b∈fp,ki X pins H b)→tn i s.heap→J.stop i H→
  wpAny (model P w) X.A (pyNext (.ref it)) (fun r s1=>r=none∧Inv X pins σ H s1) E s
 self:∀(A:Around) (i:Nat) (s:Shared) (Q:Value→Shared→Prop) (E:Value→Shared→Prop),tn i s.heap→Q (.ref it) s→wpAny (model P w) A (pyIter (.ref it)) Q E s
def Hu(X:Cx)(pins:List (Addr×Obj))(σ:St)(tg:Expr)(R:It→Hp→Prop)(itv:Value)(s2:Shared):Prop:=
 ∃(it:Addr) (fp:List Addr) (tn:Nat→Heap→Prop) (J:It) (H':Hp),itv=.ref it∧Inv X pins σ H' s2∧TurnL X.prog X.w X.K tg J fp it tn∧tn 0 s2.heap∧(∀b∈fp,ki X pins H' b)∧R J H'
def Gs(X:Cx)(tg iter:Expr)(wi:TI):Prop:=
 ∀(pins:List (Addr×Obj)) (s:Shared) (σ:St) (H:Hp) (R:It→Hp→Prop),Inv X pins σ H s→wi σ H R→
  wpAny (model X.prog X.w) X.A (eval iter X.env) (fun v s1=>wpAny (model X.prog X.w) X.A (pyIter v) (Hu X pins σ tg R) X.xe s1) X.xe s
theorem sK{w:World}{K:Frag}{tg:Expr}(it:Addr)(lo:Int)(n:Nat):TurnL P w K tg (Gp lo n) [it] it (fun i h=>IsRangeIter h it (lo+(i:Nat)*1) ((n:Int) - (i:Nat)) 1) where
 mem:=by simp
 obj:=fun i h st b hb=>by
  have e:b=it:=by simpa using hb
  subst e
  exact⟨_,st,fun v z=>by
   have z':Data.fields _=Data.cell v:=z
   cases z'⟩
 keep:=fun i h h' st k=>k it (by simp) _ st
 item:=by
  intro X hP hw hK hc i pins s σ H E I hf st hg
  subst hP hw hK
  obtain⟨f0,f1,f2,f3,f4,f5⟩:=hf it (by simp)
  refine wpAny_pyNext_range_item st (by have:i < n:=hg;omega) fun h' st' kk=>?_
  have I1:Inv X pins σ H {s with heap:=h',toks:=s.toks+1}:=I.turned (fun b o hb e=>(kk.2 b hb).trans e) f0 f1 f3 f4 f5
  have st2:IsRangeIter h' it (lo+((i+1:Nat):Int)*1) ((n:Int) - ((i+1:Nat):Int)) 1:=by
   have e1:lo+((i+1:Nat):Int)*1=lo+(i:Nat)*1+1:=by omega
   have e2:(n:Int) - ((i+1:Nat):Int)=(n:Int) - (i:Nat) - 1:=by omega
   rw[e1,e2];exact st'
  refine⟨_,rfl,rm (s:={s with heap:=h',toks:=s.toks+1}) (n:="range_iterator") st' rfl rfl (by decide) ⟨.int (lo+i),H,I1,⟨s.toks,?_⟩,⟨rfl,rfl⟩,st2,fun b hb=>(hf b hb).1⟩⟩
  rw[Int.mul_one]
 done:=by
  intro X hP hw hK hc i pins s σ H E I hf st hg
  subst hP hw hK
  obtain⟨f0,f1,f2,f3,f4,f5⟩:=hf it (by simp)
  obtain⟨ea,oe,u,L,h1,h2,h3,h4⟩:=hc
  exact uP (ea:=(ea,oe)) h1 h3 (om I h2 h4) st (by have:n≤i:=hg;omega) fun h' eb=>⟨rfl,I.turned (t':=s.toks) (fun b o hb e=>eb b o hb e) f0 f1 f3 f4 f5⟩
 self:=fun _ _ _ _ _ st h=>wpAny_pyIter_rangeiter st h
section
variable {X:Cx} {tg:Expr}
theorem yM{σ:St}{s:Shared}{R:It→Hp→Prop}{E:Value→Shared→Prop}{hi:Int}{t u v:Tok}(I:Inv X pins σ H s)(h1: -(2 ^ 62)≤lo)(h2:lo < 2 ^ 62)(h3: -(2 ^ 62)≤hi)(h4:hi < 2 ^ 62)
  (q:R (Gp lo (hi - lo).toNat) H):wpAny (model X.prog X.w) X.A (pyIter (.ref s.heap.objs.size)) (Hu X pins σ tg R) E {s with heap:=s.heap.push {cls:=.type "range",data:=.fields #[.int lo t,.int hi u,.int 1 v]},toks:=tk}:=by
 refine wpAny_pyIter_range (IsRange.new ..) (small_one h1 h2 h3 h4) ?_
 have I1:Inv X pins σ H {s with heap:=s.heap.push {cls:=.type "range",data:=.fields #[.int lo t,.int hi u,.int 1 v]},toks:=tk}:=I.kept fun b o e=>eT _ e
 refine⟨(s.heap.push {cls:=.type "range",data:=.fields #[.int lo t,.int hi u,.int 1 v]}).objs.size,[(s.heap.push {cls:=.type "range",data:=.fields #[.int lo t,.int hi u,.int 1 v]}).objs.size],_,_,H,rfl,
  I1.kept (t':=tk) fun b o e=>eT _ e,sK _ lo (hi - lo).toNat,?_,fun b hb=>?_,q⟩
 ·have e1:lo+((0:Nat):Int)*1=lo:=by simp
  have e2:(((hi - lo).toNat:Nat):Int) - ((0:Nat):Int)=Builtin.Range.rangeSize lo hi 1:=by rw[rangeSize_one];split <;> omega
  show IsRangeIter _ _ (lo+((0:Nat):Int)*1) ((((hi - lo).toNat:Nat):Int) - ((0:Nat):Int)) 1
  rw[e1,e2]
  exact kh _ rfl
 ·have e:b=(s.heap.push {cls:=.type "range",data:=.fields #[.int lo t,.int hi u,.int 1 v]}).objs.size:=by simpa using hb
  subst e
  exact I1.fpOk (eD _) (I1.hok.fresh (eD _))
theorem uW{a:Expr} {ta:TA}  (hg:Gl X "range") (hm:X.mg "range"=none) (ha:PA X [a] ta) (hs:starEach [a] X.env=[(false,eval a X.env)]:=by rfl):Gs X tg (.Call (.Name "range" p) [a] [] pos) (DP ta):=by
 intro pins s σ H R I h
 refine Call_ (lN I hg hm boot_range (PyProof.Rows.callWith_type1 (ce (ha pos pins s σ H _ I h) fun us s1 ⟨vs,H1,I1,r1,q1⟩=>?_) hs rfl))
 obtain⟨j,e,q1,q2,q⟩:=q1
 subst e
 cases r1 with
 |cons r rr=>
  cases rr
  obtain⟨t,rfl⟩:=r
  exact call_range_1 (yM I1 (by omega) (by omega) q1 q2 (by simpa using q))
end
section
variable {X:Cx} {elt target iter:Expr} {ifs:List Expr} {scope sc:Scope} {cl:List (Str×Addr)} {N:List Str} {pos:Pos} {wi:TI} {g:TG} {tt:TT} {te:TE} {js:List (Option Nat)}
theorem yN{use:Option (Value→Sem Unit)}(K:CompOk X scope sc cl N js)(hc:kA X)(hi:Gs X target iter wi)
  (hgg:∀C s₀ H₀ fp,PG (X.comp sc cl N C s₀ H₀ fp) target g) (htt:∀C s₀ H₀ fp,EW (X.comp sc cl N C s₀ H₀ fp) ifs tt) (hee:∀C s₀ H₀ fp,PE (X.comp sc cl N C s₀ H₀ fp) elt te)
  (hs:∀x,foldedSetIterable iter X.env x=pure x) (pins:List (Addr×Obj)) (s:Shared) (σ:St) (H:Hp) (Q:VK) (I:Inv X pins σ H s) (h:pv js wi g tt te σ H Q)
  (hend:∀(D C:Addr) (H4:Hp) (s5:Shared) (m:Str→Option Value),Inv X pins σ H4 s5→s5.heap.Ns C m→H4 C=none→C≠X.env.locals→C∉X.fs→X.s₀.heap.objs.size≤C→(∀x c,X.env.cells.lookup x=some c→c≠C)→(∀p∈X.pn++pins,p.1≠C)→Q (.ref D) H4→
   compPost (model X.prog X.w) X.A X.xe use Qv (.ref D) C (.ok .next) s5):
  wpAny (model X.prog X.w) X.A (comprehension (.ListComp elt [⟨target,iter,ifs,0⟩] scope pos) scope X.env (firstIterPos [⟨target,iter,ifs,0⟩] pos) (newList []) false (firstIter [⟨target,iter,ifs,0⟩] X.env) use) Qv X.xe s:=by
 refine wpAny_comprehension_free (use:=use) rfl hs K.clos K.kind K.names (ce (hi pins s σ H _ I h) fun v s1 h1=>ce h1 fun itv s2 h2=>?_)
 obtain⟨it,fp,tn,J,H2,e,I2,T,st2,f2,R⟩:=h2
 subst e
 refine wpAny_newObj_type (wpAny_newFunctionEnv K.nocell (by intro y hy;simp at hy) (fun h₁ hns₁ hsb₁=>?_) K.kind)
 dsimp only at hns₁ hsb₁ ⊢
 have I3:Inv X pins σ (upd H2 s2.heap.objs.size (.lst [])) {s2 with heap:=s2.heap.push {cls:=.type "list",dict:=none,data:=.seq ([]:List Value).toArray}}:=
  I2.lnew (t':=s2.toks) (its:=[]) .nil (zz9 _)
 obtain⟨W,⟨m0,w0⟩,turn⟩:=R s2.heap.objs.size (I2.hok.fresh (eD _))
 generalize hP:s2.heap.push {cls:=.type "list",dict:=none,data:=.seq ([]:List Value).toArray}=h3 at hns₁ hsb₁ I3 ⊢
 generalize hD:s2.heap.objs.size=D at w0 turn I3 ⊢
 have hsz3:h3.objs.size=D+1:=by rw[←hP,rk,hD]
 have old3:∀b o,s2.heap.get? b=some o→h3.get? b=some o:=fun b o e=>by rw[←hP];exact eT _ e
 have old:∀b o,h3.get? b=some o→h₁.get? b=some o:=fun b o e=>hsb₁.extBut b o (eU (eI e)) (eT _ e)
 have fpD:∀b∈fp,b < D:=fun b hb=>by
  obtain⟨o,e,_⟩:=T.obj _ _ st2 b hb
  rw[←hD];exact eI e
 have frD:∀b∈fp,(upd H2 D (.lst [])) b=none:=fun b hb=>by rw[aF (eU (fpD b hb))];exact(f2 b hb).1
 have f3:∀b∈fp,ki X pins (upd H2 D (.lst [])) b:=fun b hb=>⟨frD b hb,(f2 b hb).2⟩
 have Hfresh:∀a,h3.objs.size≤a→(upd H2 D (.lst [])) a=none:=fun a ha=>I3.hok.fresh ha
 have cellC:∀x c,X.env.cells.lookup x=some c→c < h3.objs.size:=fun x c e=>by
  obtain⟨v,q⟩:=I3.cell x c e
  exact q.lt
 have YOk:(X.comp sc cl N h3.objs.size {s2 with heap:=h3} (upd H2 D (.lst [])) fp).Ok:=by
  refine⟨I3.ok.mod,?_,I3.ok.glob,I3.ok.blt,eD _,fun x y c e1 e2=>I3.ok.inj x y c (K.same x c e1) (K.same y c e2),fun x hx=>K.has x hx,fun x c hf _=>absurd hf (by intro z;cases z),I3.ok.hd,I3.ok.frames,.inl rfl,fun b hb=>⟨?_,fun x c e=>(f2 b hb).2.2.2.2.1 x c (K.same x c e)⟩,
   I3.bs,lL I3.ok.bsz I3.sz,fun b o e hb=>?_,fun b hb hm=>?_,I3.stack,I3.stkFree,I3.tab⟩
  ·rw[←K.rel];exact K.kind
  ·exact eU (by rw[hsz3];exact Zb (fpD b hb))
  ·rcases(f2 b hb).2.2.2.1 with z |z
   ·exact I3.ok.noex b o e z
   ·exact absurd (kT (eI (I3.ok.bs b o e).1) z) (Nat.lt_irrefl _)
  ·rcases Zai.mp (I3.stkSub b hm)with z |z
   ·exact(f2 b hb).2.1 z
   ·exact(f2 b hb).2.2.1 z
 have hcC:kA (X.comp sc cl N h3.objs.size {s2 with heap:=h3} (upd H2 D (.lst [])) fp):=by
  obtain⟨ea,oe,u,LL,h1,h2,h4,h5⟩:=hc
  refine⟨ea,oe,u,LL,h1,I3.base.frzs ea oe u h2,h4,fun q hq=>.inr ?_⟩
  have hg:=om I3 h2 h5 q (gW _ hq)
  have fr:(upd H2 D (.lst [])) q.1=none∧q.1≠X.env.locals∧q.1∉X.fs∧q.1∉fp:=by
   rcases h5 q hq with m |⟨a,b,c,d⟩
   ·obtain⟨_,e2,e3,e4,_⟩:=I3.pin q (wR _ m)
    exact⟨e2,e3,e4,fun z=>(f2 q.1 z).2.2.2.2.2 q (wR _ m) rfl⟩
   ·refine⟨I3.base.free q.1 q.2 a b d,eU (kT (eI a) I3.ok.above),c,fun z=>?_⟩
    rcases(f2 q.1 z).2.2.2.1 with w |w
    ·exact d w
    ·exact absurd (kT (eI a) w) (Nat.lt_irrefl _)
  refine⟨hg,fr.1,fun z=>?_,fr.2.2.2⟩
  rcases Zai.mp (I3.stkSub q.1 z)with w |w
  ·exact fr.2.1 w
  ·exact fr.2.2.1 w
 have IY:Inv (X.comp sc cl N h3.objs.size {s2 with heap:=h3} (upd H2 D (.lst [])) fp) [] (slots js σ) (upd H2 D (.lst [])) {s2 with heap:=h₁,toks:=s2.toks+([]:List (Str×Value)).length}:=by
  refine⟨YOk,rfl,I3.bare,Un.kept old,⟨_,hns₁,fun i x v e1 e2 e3=>?_⟩,fun x c e=>?_,Hfresh _ (eD _),fun x c e=>I3.freeC x c (K.same x c e),fun p hp=>absurd (show p∈([]:List (Addr×Obj))from hp) (by simp),I3.hok.kept old,?_⟩
  ·unfold slots at e2
   rw[wT]at e2
   cases ej:js[i]? with
   |none=>rw[ej]at e2;cases e2
   |some jo=>
    rw[ej]at e2
    cases jo with
    |none=>cases e2
    |some j=>
     obtain⟨y,n1,n2,k1,k2⟩:=K.from_ i j ej
     have exy:y=x:=Option.some.inj (n1.symm.trans e1)
     subst exy
     have e2':(σ[j]?).join=some v:=Option.some.inj e2
     have e4:σ[j]? =some (some v):=by
      cases es:σ[j]? with
      |none=>rw[es]at e2';cases e2'
      |some w=>rw[es]at e2';exact congrArg some e2'
     obtain⟨m,_,hl⟩:=I3.loc
     obtain⟨u,ru,lk⟩:=hl j y v n2 e4 (by
      rcases k2 with z |z
      ·exact .inr (.inl z)
      ·exact .inr (.inr z))
     refine⟨u,ru,.inr ⟨k1,?_⟩⟩
     obtain⟨c,hcl⟩:=K.has y k1
     refine⟨c,hcl,?_⟩
     rcases lk with⟨z,_⟩ |⟨_,c',e5,ic⟩
     ·rcases k2 with q |q
      ·rw[q]at z;cases z
      ·rw[q]at z;cases z
     ·have:c'=c:=Option.some.inj (e5.symm.trans (K.same y c hcl))
      subst this
      obtain⟨o,ho,hd⟩:=ic
      exact⟨o,old _ _ ho,hd⟩
  ·obtain⟨v,o,ho,hd⟩:=I3.cell x c (K.same x c e)
   exact⟨v,o,old _ _ ho,hd⟩
  ·unfold slots;rw[fw];exact K.len
 have loop:∀s₃:Shared,s₃={s2 with heap:=h₁,toks:=s2.toks+([]:List (Str×Value)).length}→
   codeAny (model X.prog X.w) X.A (.compLoop (.ListComp elt [⟨target,iter,ifs,0⟩] scope pos) 0 (.ref it) (.ref D) (X.comp sc cl N h3.objs.size {s2 with heap:=h3} (upd H2 D (.lst [])) fp).env)
    (compPost (model X.prog X.w) X.A X.xe use Qv (.ref D) h3.objs.size) s₃:=by
  rintro s₃ rfl
  refine kU (fun n s'=>∃i σ' H',Inv (X.comp sc cl N h3.objs.size {s2 with heap:=h3} (upd H2 D (.lst [])) fp) [] σ' H' s'∧tn i s'.heap∧(∀b∈fp,H' b=none)∧W i n σ' H') ?_ m0
   ⟨0,_,_,IY,T.keep _ _ _ st2 (fun b hb o e=>old b o (old3 b o e)),frD,w0⟩
  rintro n s4 ⟨i,σ4,H4,I4,st4,fr4,w4⟩
  have ff:∀{H':Hp},(∀b∈fp,H' b=none)→∀b∈fp,ki (X.comp sc cl N h3.objs.size {s2 with heap:=h3} (upd H2 D (.lst [])) fp) [] H' b:=fun hn b hb=>
   ⟨hn b hb,(YOk.exf b hb).1,YOk.exfs b hb,.inl hb,(YOk.exf b hb).2,fun p hp=>absurd (show p∈([]:List (Addr×Obj))from hp) (by simp)⟩
  have hg:=hgg h3.objs.size {s2 with heap:=h3} (upd H2 D (.lst [])) fp
  have ht:=htt h3.objs.size {s2 with heap:=h3} (upd H2 D (.lst [])) fp
  have he:=hee h3.objs.size {s2 with heap:=h3} (upd H2 D (.lst [])) fp
  rcases turn i n σ4 H4 w4 with⟨stop,qn⟩ |⟨go,Nx,hN,step⟩
  ·refine ce (T.done (X.comp sc cl N h3.objs.size {s2 with heap:=h3} (upd H2 D (.lst [])) fp) rfl rfl rfl hcC i [] s4 σ4 H4 _ I4 (ff fr4) st4 stop) fun r s5 ⟨hr,I5⟩=>?_
   subst hr
   obtain⟨m,hn,_⟩:=I5.loc
   have IX:Inv X pins σ H4 s5:=I3.call' (ch:=fp) I5.os I5.base I5.hok I5.bare fun b hb=>⟨(f3 b hb).2.2.2.1,(f3 b hb).2.1,(f3 b hb).2.2.2.2.1,(f3 b hb).2.2.2.2.2⟩
   exact hend D h3.objs.size H4 s5 m IX hn I5.free (Ne.symm (eU I3.lt)) (I3.nofs (eD _)) I3.sz (fun x c e=>eU (cellC x c e)) (fun p hp=>eU (eI (I3.pin p hp).1)) qn
  ·refine ce (T.item (X.comp sc cl N h3.objs.size {s2 with heap:=h3} (upd H2 D (.lst [])) fp) rfl rfl rfl hcC i [] s4 σ4 H4 _ I4 (ff fr4) st4 go) fun r s5 ⟨u,hr,h5⟩=>?_
   subst hr
   refine ce h5 fun _ s6 ⟨x,H6,I6,r6,y6,st6,fr6⟩=>?_
   have I6':=I6.pinned (ff fr6) (T.obj _ _ st6)
   have back:∀{σ7:St} {H7:Hp} {s7:Shared},Inv (X.comp sc cl N h3.objs.size {s2 with heap:=h3} (upd H2 D (.lst [])) fp) ([]++kj fp s6.heap) σ7 H7 s7→
     Inv (X.comp sc cl N h3.objs.size {s2 with heap:=h3} (upd H2 D (.lst [])) fp) [] σ7 H7 s7∧tn (i+1) s7.heap∧∀b∈fp,H7 b=none:=fun {σ7 H7 s7} I7=>
    ⟨I7.unpinned,T.keep _ _ _ st6 fun b hb o e=>(I7.pin (b,o) (kf _ (kf _ (dD hb e)))).1,fun b hb=>by
     obtain⟨o,e,d⟩:=T.obj _ _ st6 b hb
     exact(I7.pin (b,o) (kf _ (kf _ (dD hb e)))).2.1⟩
   refine ce (hg _ s6 σ4 H6 x u _ I6' r6 (step x H6 y6)) fun _ s7 ⟨σ7,H7,I7,q7⟩=>?_
   refine ce (ht _ s7 σ7 H7 _ I7 q7) fun b s8 ⟨H8,I8,q8⟩=>?_
   cases b with
   |false=>
    obtain⟨m',hm,w8⟩:=hN σ7 H8 q8
    obtain⟨J1,J2,J3⟩:=back I8
    exact⟨m',hm,i+1,σ7,H8,J1,J2,J3,w8⟩
   |true=>
    refine ce (he _ s8 σ7 H8 _ I8 q8) fun yv s9 ⟨y,H9,I9,r9,ys,hl,hz,n9⟩=>?_
    obtain⟨m',hm,w9⟩:=hN _ _ n9
    refine ce (jL _ s9 σ7 H9 (.ref D) [y] (.ref D) [yv] (fun v H'=>v=.non∧H'=upd H9 D (.lst (ys++[y]))) I9 rfl (.cons r9 .nil) ⟨D,ys,y,rfl,rfl,hl,hz,rfl,rfl⟩) fun _ sA ⟨_,HA,IA,_,_,eA⟩=>?_
    subst eA
    obtain⟨J1,J2,J3⟩:=back IA
    exact⟨m',hm,i+1,σ7,_,J1,J2,J3,w9⟩
 rw[K.rel]
 exact codeAny_compStart_list (loop _ rfl) (T.self _ 0 _ _ _ (T.keep _ _ _ st2 (fun b hb o e=>old b o (old3 b o e))) (loop _ rfl))
theorem Bl(K:CompOk X scope sc cl N js)(hc:kA X)(hi:Gs X target iter wi)
  (hgg:∀C s₀ H₀ fp,PG (X.comp sc cl N C s₀ H₀ fp) target g) (htt:∀C s₀ H₀ fp,EW (X.comp sc cl N C s₀ H₀ fp) ifs tt) (hee:∀C s₀ H₀ fp,PE (X.comp sc cl N C s₀ H₀ fp) elt te)
  (hs:∀x,foldedSetIterable iter X.env x=pure x:=by intro _;rfl):PE X (.ListComp elt [⟨target,iter,ifs,0⟩] scope pos) (pv js wi g tt te):=by
 intro pins s σ H Q I h
 rw[eval_ListComp]
 refine yN (use:=none) K hc hi hgg htt hee hs pins s σ H Q I h fun D C H4 s5 m IX hn fC nL _ sz nc np qn=>?_
 exact⟨m,hn,fun h' hs'=>⟨.ref D,H4,IX.turned (t':=s5.toks) (it:=C) (fun b o hb e=>(hs'.2 b hb).trans e) fC nL (.inr sz) nc np,rfl,qn⟩⟩
end
end L2
namespace PL
open PySem L2 Nh
def Jw(X:Cx)(tg e:Expr)(m:Bool)(f:jP):Prop:=Gs X tg e (ri X.K m f)
section
variable {X:Cx} {tg e:Expr} {m:Bool} {g:lM} {p pos:Pos}
theorem Dc{t t':TI}(h:Gs X tg e t)(k:∀σ H Q,t' σ H Q→t σ H Q):Gs X tg e t':=fun pins s σ H R I q=>h pins s σ H R I (k σ H R q)
theorem uX(hg:Gl X "range") (hm:X.mg "range"=none) (ha:AX X [e] m g) (hs:starEach [e] X.env=[(false,eval e X.env)]:=by rfl):Jw X tg (.Call (.Name "range" p) [e] [] pos) m (nO g):=Dc (uW hg hm ha hs) fun σ H R z=>by
 obtain⟨B,E,xs,Xs,ds,E',fr,cl,e,q⟩:=z
 obtain⟨⟨rs,E1⟩,e1,e⟩:=Za.mp e
 refine⟨B,E,xs,Xs,rs,E1,fr,cl,e1,fun vs H1 hl ⟨F,A,fr1⟩=>?_⟩
 simp only at e
 split at e
 ·rename_i j ld
  split at e
  ·rename_i hj
   cases e
   obtain⟨r,A',fr2⟩:=fr1.looks hl ld
   obtain⟨v,rfl,r'⟩:=r.one
   cases r'
   exact⟨j,rfl,by omega,by omega,q B _ _ (Same.refl _) ⟨F,A',fr2⟩ nP⟩
  ·cases e
 ·cases e
end
section
variable {X:Cx} {elt target iter:Expr} {scope sc:Scope} {cl:List (Str×Addr)} {N:List Str} {pos:Pos} {js:List (Option Nat)}
theorem yO(C:CompOk X scope sc cl N js)(hc:kA X)(hi:Jw X target iter m it)(hg:∀C s₀ H₀ fp,GX (X.comp sc cl N C s₀ H₀ fp) target tg)(he:∀C s₀ H₀ fp,EX (X.comp sc cl N C s₀ H₀ fp) elt m3 el)
  (hs:∀x,foldedSetIterable iter X.env x=pure x:=by intro _;rfl):EX X (.ListComp elt [⟨target,iter,[],0⟩] scope pos) m (c7 js it tg dl el):=
 bv (Bl (g:=rg X.K tg) (te:=rd X.K m3 el) C hc hi hg (fun _ _ _ _=>vT) he hs) fun σ H Q z=>m5 (m2:=false) (fun σ H Q z=>by
  obtain⟨B,E,xs,Xs,b,E',fr,cl,e,q⟩:=z
  cases e
  exact q _ fr) z
theorem De{ex:List (Addr×Obj)}(h:ChainP ((ea,oe)::ex)):kA (hX X ea oe C ex):=⟨ea,oe,_,ex,rfl,upd_same,h,fun q hq=>.inl (wR _ hq)⟩
end
end PL
namespace PL
open PySem L2 Nh
def Bm:Expr→Bool
 | .Starred .. =>false
 |_=>true
theorem Df{es:List Expr}{env:Env}(h:Bm e=true):starEach (e::es) env=(false,eval e env)::starEach es env:=by
 cases e <;> first |rfl |cases h
inductive DL (X:Cx):List Expr→Bool→jP→Prop
 |nil:DL X [] false cQ
 |cons {e:Expr} {es:List Expr} {m1 m2:Bool} {f:bj} {d:jP}:EX X e m1 f→Bm e=true→DL X es m2 d→DL X (e::es) (m1||m2) (aw f d)
section
variable {X:Cx} {es:List Expr} {m:Bool} {d:jP} {pos:Pos}
theorem DL.dx(h:DL X es m d):DX X es m d:=by
 induction h with
 |nil=>exact tU
 |cons a n _ ih=>exact kY a ih (Df n)
theorem cS(h:DL X es m d):EX X (.List es pos) m (cR d):=tV h.dx
theorem Bo{x1}(h:DL X es m d):EX X (.Tuple es x1 pos) m (CA d):=Fi h.dx
end
def jh:List Nat→Expr→Expr
 |[],e=>e
 |k::r,e=>match e with
  | .Call _ as _ _=>jh r (as.getD k e)
  | .BinOp a _ b _=>if k=0 then jh r a else jh r b
  | .Subscript a b _=>if k=0 then jh r a else jh r b
  | .Compare a _ cs _=>if k=0 then jh r a else jh r (cs.getD (k - 1) e)
  | .BoolOp _ vs _=>jh r (vs.getD k e)
  | .UnaryOp _ a _=>jh r a
  | .List es _=>jh r (es.getD k e)
  | .Tuple es _ _=>jh r (es.getD k e)
  | .ListComp _ (c::_) _ _=>jh r c.iter
  |e=>e
def jk(v:Expr):List Nat→Expr→Expr
 |[],_=>v
 |k::r,e=>match e with
  | .Call f as ks p=> .Call f (as.set k (jk v r (as.getD k e))) ks p
  | .BinOp a o b p=>if k=0 then .BinOp (jk v r a) o b p else .BinOp a o (jk v r b) p
  | .Subscript a b p=>if k=0 then .Subscript (jk v r a) b p else .Subscript a (jk v r b) p
  | .Compare a os cs p=>if k=0 then .Compare (jk v r a) os cs p else .Compare a os (cs.set (k - 1) (jk v r (cs.getD (k - 1) e))) p
  | .BoolOp o vs p=> .BoolOp o (vs.set k (jk v r (vs.getD k e))) p
  | .UnaryOp o a p=> .UnaryOp o (jk v r a) p
  | .List es p=> .List (es.set k (jk v r (es.getD k e))) p
  | .Tuple es n p=> .Tuple (es.set k (jk v r (es.getD k e))) n p
  | .ListComp el (c::cs) sc p=> .ListComp el ({c with iter:=jk v r c.iter}::cs) sc p
  |e=>e
def o5:List Nat→List Stmt→Expr
 |[],_=> .Constant .none 0 ⟨0,0,0,0⟩
 |i::r,b=>match b[i]? with
  |some (.Assign _ e _)=>jh r e
  |some (.Return (some e) _)=>jh r e
  |some (.Expr e _)=>jh r e
  |some (.If t bb _ _)=>match r with
   | 0::q=>jh q t
   | 1::q=>o5 q bb
   |_=>t
  |some (.For t it bb _ _)=>match r with
   | 0::q=>jh q it
   | 1::q=>o5 q bb
   |_=>t
  |_=> .Constant .none 0 ⟨0,0,0,0⟩
def yP(v:Expr):List Nat→List Stmt→List Stmt
 |[],b=>b
 |i::r,b=>match b[i]? with
  |some (.Assign t e p)=>b.set i (.Assign t (jk v r e) p)
  |some (.Return (some e) p)=>b.set i (.Return (some (jk v r e)) p)
  |some (.Expr e p)=>b.set i (.Expr (jk v r e) p)
  |some (.If t bb o p)=>match r with
   | 0::q=>b.set i (.If (jk v q t) bb o p)
   | 1::q=>b.set i (.If t (yP v q bb) o p)
   |_=>b
  |some (.For t it bb o p)=>match r with
   | 0::q=>b.set i (.For t (jk v q it) bb o p)
   | 1::q=>b.set i (.For t it (yP v q bb) o p)
   |_=>b
  |_=>b
def Dg:Expr→List Expr
 | .List es _=>es
 | .Tuple es _ _=>es
 |_=>[]
def wz(es:List Expr):Expr→Expr
 | .List _ p=> .List es p
 | .Tuple _ n p=> .Tuple es n p
 |e=>e
structure BodyOk (X:Cx) (body:List Stmt) (g:cZ):Prop where
 of:q_ X body g
theorem wA{g:cZ}(path:List Nat){d:jP}(hP:∀Y:Cx,DL Y (Dg (o5 path body)) m d)(key:∀es,(∀Y:Cx,DL Y es m d)→BodyOk X (yP (wz es (o5 path body)) path body) g)(hb:yP (wz (Dg (o5 path body)) (o5 path body)) path body=body:=by rfl):BodyOk X body g:=by
 have:=key _ hP
 rw[hb]at this
 exact this
theorem jY{g:cZ}(path:List Nat){d:jP}(hP:DL X (Dg (o5 path body)) m d)(key:∀es,DL X es m d→BodyOk X (yP (wz es (o5 path body)) path body) g)(hb:yP (wz (Dg (o5 path body)) (o5 path body)) path body=body:=by rfl):BodyOk X body g:=by
 have:=key _ hP
 rw[hb]at this
 exact this
end PL
namespace PL
open PySem L2 Nh
section
variable {X:Cx}
theorem FY{h₀:ExceptHandler}{hs:List ExceptHandler}{g:cZ}(hx:X.xe=fun _ _=>False)(h:q_ X body g):SX X (.Try body (h₀::hs) [] [] pos) g:=by
 intro pins s σ H D I hw
 have q:=h pins s σ H D I hw
 rw[hx]at q
 refine wpAny_Try_except (zz2 q (fun f s1 z=>?_) fun _ _ z=>z.elim)
 cases f with
 |next=>exact wpAny_execs_nil z
 |brk=>exact z
 |cont=>exact z
 |ret u=>exact z
end
end PL
namespace NH
def df(w:List Nat):Nat→Nat
 | 0=>0
 |n+1=>df w n+if 97+n∈w then 2 ^ n else 0
theorem pU(w:List Nat):∀n,df w n < 2 ^ n
 | 0=>by simp[df]
 |n+1=>by
  have:=pU w n
  rw[df,Nat.pow_succ]
  split <;> omega
theorem fe(w:List Nat):∀n i,(df w n).testBit i=(decide (i < n)&&decide (97+i∈w))
 | 0,i=>by simp[df]
 |n+1,i=>by
  have ih:=fe w n i
  have lt:=pU w n
  rw[df]
  by_cases h:97+n∈w
  ·rw[if_pos h,Nat.add_comm]
   by_cases e:i=n
   ·subst e
    rw[Nat.testBit_two_pow_add_eq,ih]
    simp[h]
   ·by_cases l:i < n
    ·rw[Nat.testBit_two_pow_add_gt l,ih]
     simp[l,show i < n+1 by omega]
    ·have big:2 ^ n+df w n < 2 ^ i:=by
      have:2 ^ (n+1)≤2 ^ i:=Nat.pow_le_pow_right (by decide) (by omega)
      rw[Nat.pow_succ]at this
      omega
     rw[Nat.testBit_lt_two_pow big]
     simp[show ¬i < n+1 by omega]
  ·rw[if_neg h,Nat.add_zero,ih]
   by_cases e:i=n
   ·subst e;simp[h]
   ·by_cases l:i < n
    ·simp[l,show i < n+1 by omega]
    ·simp[l,show ¬i < n+1 by omega]
def bV(w:List Nat):Nat:=df w 26
def l6(w:List Nat):Prop:=∀a∈w,97≤a∧a < 97+26
theorem yQ{a b:List Nat}(ha:l6 a):bV a &&& bV b=bV a↔∀x∈a,x∈b:=by
 unfold bV
 constructor
 ·intro h x hx
  have l:=ha x hx
  have:=congrArg (fun n=>n.testBit (x - 97)) h
  simp only[Nat.testBit_and,fe,show 97+(x - 97)=x by omega,show x - 97 < 26 by omega,hx]at this
  simpa using this
 ·intro h
  refine Nat.eq_of_testBit_eq fun i=>?_
  rw[Nat.testBit_and,fe,fe]
  by_cases m:97+i∈a
  ·simp[m,h _ m]
  ·simp[m]
theorem yR{a b:List Nat}(ha:l6 a):bV a &&& bV b=0↔∀x∈a,x∉b:=by
 unfold bV
 constructor
 ·intro h x hx hb
  have l:=ha x hx
  have:=congrArg (fun n=>n.testBit (x - 97)) h
  simp only[Nat.testBit_and,fe,show 97+(x - 97)=x by omega,show x - 97 < 26 by omega,hx,hb]at this
  simp at this
 ·intro h
  refine Nat.eq_of_testBit_eq fun i=>?_
  rw[Nat.testBit_and,fe,fe,Nat.zero_testBit]
  by_cases m:97+i∈a
  ·simp[m,h _ m]
  ·simp[m]
end NH
namespace NhFam
abbrev Tx:=List Nat
def Srt(w:Tx):Prop:=w.Pairwise (· < ·)
def le(v w:Tx):Prop:=∀x∈v,x∈w
instance (v w:Tx):Decidable (le v w):=inferInstanceAs (Decidable (∀x∈v,x∈w))
theorem le.refl(v:Tx):le v v:=fun _ h=>h
theorem le.trans{u v w:Tx}(a:le u v)(b:le v w):le u w:=fun x h=>b x (a x h)
def Sub(U w:Tx):Prop:=Srt w∧le w U
theorem cT:∀{w v:Tx},Srt v→Srt w→le v w→v.Sublist w
 |[],v,_,_,h=>by
  cases v with
  |nil=>exact .slnil
  |cons x v=>cases h x (jJ ..)
 |y::w,v,hv,hw,h=>by
  cases v with
  |nil=>exact List.nil_sublist _
  |cons x v=>
   have hw':=List.pairwise_cons.mp hw
   have hv':=List.pairwise_cons.mp hv
   by_cases e:x=y
   ·subst e
    refine(cT hv'.2 hw'.2 fun z hz=>?_).cons_cons _
    rcases Zai.mp (h z (gW _ hz))with q |q
    ·have:=hv'.1 z hz;omega
    ·exact q
   ·have hx:x∈w:=(Zai.mp (h x (jJ ..))).resolve_left e
    have lt:=hw'.1 x hx
    refine(cT hv hw'.2 fun z hz=>?_).cons _
    rcases Zai.mp (h z hz)with q |q
    ·subst q
     rcases Zai.mp hz with q |q
     ·omega
     ·have:=hv'.1 z q;omega
    ·exact q
theorem Srt.ext{v w:Tx}(hv:Srt v)(hw:Srt w)(a:le v w)(b:le w v):v=w:=
 (cT hv hw a).eq_of_length (Nat.le_antisymm (cT hv hw a).length_le (cT hw hv b).length_le)
theorem FZ{v w:Tx}(hv:Srt v)(hw:Srt w)(a:le v w)(n:v≠w):v.length < w.length:=by
 have s:=cT hv hw a
 rcases Nat.lt_or_ge v.length w.length with h |h
 ·exact h
 ·exact absurd (s.eq_of_length (Nat.le_antisymm s.length_le h)) n
def key(w:Tx):NhSG.Ky:=((w.length:Int),w)
def jm(v w:Tx):Prop:=NhSG.fY (key v) (key w)=true
theorem uY{v w:Tx}(h:v.length < w.length):jm v w:=NhSG.ltKy_iff.mpr (.inl (by simp only[key];omega))
theorem oo(v:Tx):¬jm v v:=fun h=>by
 have:=(NhSG.fk default).irrefl (key v)
 unfold jm at h
 rw[show NhSG.fY (key v) (key v)=false from this]at h
 cases h
theorem l7{v w:Tx}(h1:¬jm v w)(h2:¬jm w v):v=w:=by
 have h:=(NhSG.fk default).total (key v) (key w) (by simpa[jm]using h1) (by simpa[jm]using h2)
 exact congrArg Prod.snd h
theorem pV{u v w:Tx}(a:jm u v)(b:jm v w):jm u w:=(NhSG.fk default).trans _ _ _ a b
theorem l9{v w:Tx}(a:jm v w):¬jm w v:=fun b=>oo v (pV a b)
def up(F:List Tx)(w:Tx):Prop:=∃v∈F,le v w
def Min(U:Tx)(f:Tx→Prop)(w:Tx):Prop:=Sub U w∧f w∧∀v,Sub U v→f v→le v w→v=w
structure Told (U:Tx) (L:List Tx) (f:Tx→Prop):Prop where
 srt:L.Pairwise jm
 mem:∀w,w∈L↔Min U f w
theorem Min.congr{U:Tx}{f g:Tx→Prop}(h:∀w,Sub U w→(f w↔g w)){w:Tx}:Min U f w↔Min U g w:=by
 constructor
 ·rintro⟨a,b,c⟩;exact⟨a,(h w a).mp b,fun v v1 v2 v3=>c v v1 ((h v v1).mpr v2) v3⟩
 ·rintro⟨a,b,c⟩;exact⟨a,(h w a).mpr b,fun v v1 v2 v3=>c v v1 ((h v v1).mp v2) v3⟩
theorem pW{L:List Tx}(h:L.Pairwise jm):L.Nodup:=h.imp fun {a b} h e=>by subst e;exact oo a h
theorem Bp{L L':List Tx}(a:L.Pairwise jm)(b:L'.Pairwise jm)(h:∀w,w∈L↔w∈L'):L=L':=
 ((List.perm_ext_iff_of_nodup (pW a) (pW b)).mpr h).eq_of_pairwise (fun x y _ _ p q=>absurd q (l9 p)) a b
theorem Told.uniq{U:Tx}{L L':List Tx}{f g:Tx→Prop}(a:Told U L f)(b:Told U L' g)(h:∀w,Sub U w→(f w↔g w)):L=L':=
 Bp a.srt b.srt fun w=>(a.mem w).trans ((Min.congr h).trans (b.mem w).symm)
theorem Bq{U:Tx}{F:List Tx}(hF:∀v∈F,Sub U v){w:Tx}:Min U (up F) w↔w∈F∧∀v∈F,le v w→v=w:=by
 constructor
 ·rintro⟨a,⟨v,hv,l⟩,c⟩
  have e:=c v (hF v hv) ⟨v,hv,le.refl v⟩ l
  subst e
  exact⟨hv,fun u hu l=>c u (hF u hu) ⟨u,hu,le.refl u⟩ l⟩
 ·rintro⟨a,b⟩
  refine⟨hF w a,⟨w,a,le.refl w⟩,fun v hv ⟨u,hu,l⟩ lv=>?_⟩
  have e:=b u hu (l.trans lv)
  subst e
  exact hv.1.ext (hF u hu).1 lv l
def gE(K:List Tx):List Tx→List Tx
 |[]=>K
 |w::r=>if K.any (fun k=>decide (le k w))then gE K r else gE (K++[w]) r
theorem kB:∀(S K Pre:List Tx),(∀v∈Pre++S,Srt v)→(∀v∈Pre,∃k∈K,le k v)→(∀k∈K,k∈Pre)→(∀v∈Pre,∀w∈S,¬jm w v)→S.Pairwise (fun a b=>¬jm b a)→
  (∀k∈K,∀v∈Pre,le v k→v=k)→K.Pairwise jm→(gE K S).Pairwise jm∧∀w,w∈gE K S↔w∈Pre++S∧∀v∈Pre++S,le v w→v=w
 |[],K,Pre,hs,h1,h2,h3,h4,h5,h6=>by
  refine⟨h6,fun w=>?_⟩
  simp only[gE,tL]
  refine⟨fun hw=>⟨h2 w hw,h5 w hw⟩,fun⟨a,b⟩=>?_⟩
  obtain⟨k,hk,l⟩:=h1 w a
  rw[←b k (h2 k hk) l]
  exact hk
 |w::S,K,Pre,hs,h1,h2,h3,h4,h5,h6=>by
  have e:Pre++w::S=(Pre++[w])++S:=by simp
  have h4':=List.pairwise_cons.mp h4
  have sw:Srt w:=hs w (by simp)
  have back:∀k∈K,le w k→w=k:=fun k hk l=>Classical.byContradiction fun n=>h3 k (h2 k hk) w (by simp) (uY (FZ sw (hs k (by simp[h2 k hk])) l n))
  have o3:∀v∈Pre++[w],∀u∈S,¬jm u v:=fun v hv u hu=>by
   rcases Zaf.mp hv with q |q
   ·exact h3 v q u (gW _ hu)
   ·rw[Zac.mp q];exact h4'.1 u hu
  rw[e]at hs ⊢
  by_cases h:K.any (fun k=>decide (le k w))=true
  ·rw[gE,if_pos h]
   obtain⟨k0,hk0,l0⟩:=List.any_eq_true.mp h
   refine kB S K (Pre++[w]) hs (fun v hv=>?_) (fun k hk=>by simp[h2 k hk]) o3 h4'.2 (fun k hk v hv l=>?_) h6
   ·rcases Zaf.mp hv with q |q
    ·exact h1 v q
    ·rw[Zac.mp q];exact⟨k0,hk0,zz5 l0⟩
   ·rcases Zaf.mp hv with q |q
    ·exact h5 k hk v q l
    ·rw[Zac.mp q]at l ⊢;exact back k hk l
  ·rw[gE,if_neg h]
   have no:∀k∈K,¬le k w:=fun k hk l=>h (List.any_eq_true.mpr ⟨k,hk,zz4 l⟩)
   refine kB S (K++[w]) (Pre++[w]) hs (fun v hv=>?_) (fun k hk=>?_) o3 h4'.2 (fun k hk v hv l=>?_) ?_
   ·rcases Zaf.mp hv with q |q
    ·obtain⟨k,hk,l⟩:=h1 v q;exact⟨k,by simp[hk],l⟩
    ·rw[Zac.mp q];exact⟨w,by simp,le.refl w⟩
   ·rcases Zaf.mp hk with q |q
    ·simp[h2 k q]
    ·simp[Zac.mp q]
   ·rcases Zaf.mp hk with p |p <;> rcases Zaf.mp hv with q |q
    ·exact h5 k p v q l
    ·rw[Zac.mp q]at l ⊢;exact back k p l
    ·rw[Zac.mp p]at l ⊢
     obtain⟨k',hk',l'⟩:=h1 v q
     exact absurd (l'.trans l) (no k' hk')
    ·rw[Zac.mp p,Zac.mp q]
   ·refine List.pairwise_append.mpr ⟨h6,List.pairwise_singleton _ _,fun k hk u hu=>?_⟩
    rw[Zac.mp hu]
    refine Classical.byContradiction fun n=>no k hk ?_
    rw[l7 n (h3 k (h2 k hk) w (by simp))]
    exact le.refl w
def g8(F:List Tx):List Tx:=F.mergeSort fun a b=> !NhSG.fY (key b) (key a)
theorem sortT_mem{F:List Tx}{w:Tx}:w∈g8 F↔w∈F:=(List.mergeSort_perm F _).mem_iff
theorem l_(F:List Tx):(g8 F).Pairwise fun a b=>¬jm b a:=by
 have h:=List.pairwise_mergeSort (le:=fun a b=> !NhSG.fY (key b) (key a)) (fun a b c h1 h2=>by
  have h1':¬jm b a:=by simpa[jm]using h1
  have h2':¬jm c b:=by simpa[jm]using h2
  have:¬jm c a:=fun z=>by
   by_cases q:jm a b
   ·exact h2' (pV z q)
   ·rw[l7 q h1']at z;exact h2' z
  simpa[jm]using this) (fun a b=>by
  by_cases q:NhSG.fY (key b) (key a)=true
  ·have:¬jm a b:=l9 q
   have:NhSG.fY (key a) (key b)=false:=by simpa[jm]using this
   simp[this]
  ·simp[Bool.not_eq_true _▸q]) F
 exact h.imp fun {a b} h=>by simpa[jm]using h
def d7(F:List Tx):List Tx:=gE [] (g8 F)
theorem jr{U:Tx}{F:List Tx}(hF:∀v∈F,Sub U v):Told U (d7 F) (up F):=by
 obtain⟨a,b⟩:=kB (g8 F) [] [] (fun v hv=>(hF v (sortT_mem.mp (by simpa using hv))).1) (fun v hv=>by cases hv) (fun v hv=>by cases hv) (fun v hv=>by cases hv) (l_ F) (fun v hv=>by cases hv) .nil
 refine⟨a,fun w=>(b w).trans ?_⟩
 rw[Bq hF]
 simp only[Z8,sortT_mem]
def D9(F:List Tx)(w:Tx):Prop:=∀v∈F,∃x∈v,x∈w
end NhFam
namespace NhFam
def iu(w:Tx):List Tx:=w.foldl (fun acc a=>acc++acc.map (· ++[a])) [[]]
theorem sL:∀(V:Tx) (acc:List Tx) (w:Tx),w∈V.foldl (fun acc a=>acc++acc.map (· ++[a])) acc↔∃u∈acc,∃t,t.Sublist V∧w=u++t
 |[],acc,w=>by
  constructor
  ·intro h;exact⟨w,h,[],.slnil,by simp⟩
  ·rintro⟨u,hu,t,ht,rfl⟩
   have:t=[]:=by simpa using ht
   subst this
   simpa using hu
 |a::V,acc,w=>by
  rw[List.foldl_cons,sL V]
  constructor
  ·rintro⟨u,hu,t,ht,rfl⟩
   rcases Zaf.mp hu with q |q
   ·exact⟨u,q,t,ht.cons _,rfl⟩
   ·obtain⟨v,hv,rfl⟩:=Zaz.mp q
    exact⟨v,hv,a::t,ht.cons_cons _,by simp⟩
  ·rintro⟨u,hu,t,ht,rfl⟩
   cases ht with
   |cons _ h=>exact⟨u,by simp[hu],t,h,rfl⟩
   |cons_cons _ h=>exact⟨u++[a],by simp[hu],_,h,by simp⟩
theorem sM{V:Tx}(hV:Srt V){w:Tx}:w∈iu V↔Sub V w:=by
 unfold iu
 rw[sL]
 constructor
 ·rintro⟨u,hu,t,ht,rfl⟩
  rw[Zac.mp hu,List.nil_append]
  exact⟨List.Pairwise.sublist ht hV,fun x hx=>ht.subset hx⟩
 ·intro h
  exact⟨[],by simp,w,cT h.1 hV h.2,rfl⟩
theorem Br(V:Tx):(iu V).length=2 ^ V.length:=by
 have key:∀(V:Tx) (acc:List Tx),(V.foldl (fun acc a=>acc++acc.map (· ++[a])) acc).length=acc.length*2 ^ V.length:=fun V=>by
  induction V with
  |nil=>intro acc;simp
  |cons a V ih=>
   intro acc
   rw[List.foldl_cons,ih,qY,fw,List.length_cons,Nat.pow_succ,←Nat.two_mul,Nat.mul_comm 2,Nat.mul_assoc,Nat.mul_comm 2]
 unfold iu
 rw[key]
 simp
def mI(F:List Tx)(w:Tx):Bool:=F.all fun v=> !decide (∀x∈v,x∉w)
theorem meetB_iff{F:List Tx}{w:Tx}:mI F w=true↔D9 F w:=by
 unfold mI D9
 rw[List.all_eq_true]
 refine⟨fun h v hv=>?_,fun h v hv=>?_⟩
 ·have:=h v hv
  simp only[Bool.not_eq_true',decide_eq_false_iff_not]at this
  obtain⟨x,h⟩:=Classical.not_forall.mp this
  obtain⟨a,b⟩:=Classical.not_imp.mp h
  exact⟨x,a,Classical.not_not.mp b⟩
 ·obtain⟨x,a,b⟩:=h v hv
  simp only[Bool.not_eq_true',decide_eq_false_iff_not]
  exact fun z=>z x a b
end NhFam
namespace NH
variable {α:Type} [DecidableEq α]
end NH
namespace Nh
open PySem L2 PL
theorem Bs{l a m b:List α}{i j:Int}(h:l=a++m++b)(hi:i=a.length)(hj:j=a.length+m.length):iS l (some i) (some j)=m:=by
 subst h hi
 unfold iS
 rw[hj,show((a.length:Int)+m.length)=((a.length+m.length:Nat):Int) by omega,HT.qd,HT.qd]
 simp
end Nh
namespace Nhk46
open PySem L2 Nh PL
def oq:List (Str×Bool):=[("NoNails",false),("NoRule",false),("TooMany",false)]
def mJ:List (Str×Bool):=[("NoNails",true),("NoRule",false),("TooMany",false)]
def ou:List (Str×Bool):=[("NoNails",false),("NoRule",true),("TooMany",false)]
def ov:List (Str×Bool):=[("NoNails",false),("NoRule",false),("TooMany",false)]
def oA:List (Str×Bool):=[("NoNails",false),("NoRule",false),("TooMany",false)]
def oD:List (Str×Bool):=[("NoNails",false),("NoRule",false),("TooMany",false)]
def oE:List (Str×Bool):=[("NoNails",false),("NoRule",false),("TooMany",false)]
def lC:List (Str×Bool):=[("NoNails",false),("NoRule",false),("TooMany",false)]
def mK:List (Str×Bool):=[("NoNails",false),("NoRule",false),("TooMany",true)]
def mL:List (Str×Bool):=[("NoNails",false),("NoRule",false),("TooMany",false)]
def jt:List (Str×Bool):=[("NoNails",true),("NoRule",true),("TooMany",true)]
def gc:cZ:=(bc (mE (iR (i0 .str) (ae 0)) (mE (ao oW false (j5 j6 (af false (ae 0) am)) (pC (.int 1))) (iW (gK .le) (gK .le) false false (pC (.str "a")) (ae 0) (pC (.str "z"))))))
def bJ:List PyData→Option Sl:=gB 1 1 gc
def iv:cZ:=(bc (mE (iR (i0 .int) (ae 0)) (iR Fd (iR (i0 .bool) (ae 0)))))
def cC:List PyData→Option Sl:=gB 1 1 iv
def bF:gA:=(bH 1)
def bG:cZ:=(cg (aV (bM (aj bJ (af false (ae 1) am))))
 e_
 bh)
def lD:cZ:=(a9 (cg (aV (bM (iR (i0 .str) (ae 0))))
 e_
 bh)
 (a9 (i7 (b_ (ae 0)) bF
 bG)
 (bc (fB "" (nT (ae 0))))))
def b9:List PyData→Option Sl:=gB 1 2 lD
def lE:fI:=(si (pN (aV (bM (iR (i0 .str) (ae 0)))) (iP "NoNails"))
 (il (cg (aV (bM (iR (i0 .str) (ae 0))))
 e_
 bh)
 (Hj (b_ (ae 0)) bF bG (pN (aV (bM (aj bJ (af false (ae 1) am)))) (iP "NoNails")))))
def bK:List PyData→Option Str:=rh 1 2 lE
def eO:gA:=(bH 3)
def eP:cZ:=(a9 (cg (iN (ao (BW false) false (ae 3) (ae 0)))
 (aP 1 (ao bI false (ae 1) (ae 2)))
 bh)
 (aP 2 (ao tT false (ae 2) (pC (.int 2)))))
def jZ:cZ:=(a9 (aP 1 (pC (.int 0)))
 (a9 (aP 2 (pC (.int 1)))
 (a9 (i7 (b_ (pC (.str "abcdefghijklmnopqrstuvwxyz"))) eO
 eP)
 (bc (ae 1)))))
def aQ:List PyData→Option Sl:=gB 1 4 jZ
def dW:cZ:=(bc (qI (ae 0)))
def bp:List PyData→Option Sl:=gB 1 1 dW
def bD:gA:=(bH 2)
def be:cZ:=(cg (iN (ao oW false (ao tY false (ae 2) (ae 0)) (ae 2)))
 (bc (pC (.bool true)))
 bh)
def cU:cZ:=(a9 (i7 (b_ (ae 1)) bD
 be)
 (bc (pC (.bool false))))
def aG:List PyData→Option Sl:=gB 2 3 cU
def ci:gA:=(bH 2)
def bT:cZ:=(cg (iN (ao oW false (ao tY false (ae 2) (ae 0)) (pC (.int 0))))
 (bc (pC (.bool false)))
 bh)
def eQ:cZ:=(a9 (i7 (b_ (ae 1)) ci
 bT)
 (bc (pC (.bool true))))
def cK:List PyData→Option Sl:=gB 2 3 eQ
def cL:gA:=(bH 3)
def b8:cZ:=(a9 (aP 4 (aj aQ (af false (ae 3) am)))
 (cg (aV (bM (aj aG (af false (ae 4) (af false (ae 2) am)))))
 (a9 (gh (k8 2 (ae 4)))
 (gh (k8 1 (ae 3))))
 bh))
def gr:cZ:=(a9 (aP 1 (cR cQ))
 (a9 (aP 2 (cR cQ))
 (a9 (i7 (b_ (aj bp (af false (ae 0) am))) cL
 b8)
 (bc (ae 1)))))
def bq:List PyData→Option Sl:=gB 1 5 gr
def fm:gA:=(bH 0)
def dQ:bj:=(ao bI false (ae 0) (ae 1))
def dm:gA:=(bH 2)
def dq:cZ:=(aP 1 (ao bI false (ae 1) (c7 [none,some 2] (b_ (ae 1)) fm dl dQ)))
def gu:cZ:=(a9 (aP 1 (cR (aw (pC (.str "")) cQ)))
 (a9 (i7 (b_ (ae 0)) dm
 dq)
 (bc (ae 1))))
def bP:List PyData→Option Sl:=gB 1 3 gu
def fZ:cZ:=(cg (iN (ao (kR (gK .gt)) false (j5 j6 (af false (ae 0) am)) (pC (.int 10))))
 e_
 bh)
def aN:List PyData→Option Sl:=gB 1 1 fZ
def iw:fI:=(pN (iN (ao (kR (gK .gt)) false (j5 j6 (af false (ae 0) am)) (pC (.int 10)))) (iP "TooMany"))
def bt:List PyData→Option Str:=rh 1 1 iw
def fq:cZ:=(bc (aj b9 (af false (fB "" (ae 0)) am)))
def aH:List PyData→Option Sl:=gB 1 1 fq
def cj:gA:=(bH 0)
def ck:bj:=(aj b9 (af false (ae 0) am))
def f8:cZ:=(bc (aj bq (af false (c7 [none] (b_ (ae 0)) cj dl ck) am)))
def bi:List PyData→Option Sl:=gB 1 1 f8
def f_:fI:=(sC [none] (b_ (ae 0)) (bH 0) (aj b9 (af false (ae 0) am)) (cB bK (af false (ae 0) am)))
def cM:List PyData→Option Str:=rh 1 1 f_
def bw:gA:=(bH 0)
def bx:bj:=(aj aQ (af false (ae 0) am))
def dA:gA:=(bH 0)
def dB:bj:=(ae 0)
def cD:iT:=(bM (aj cK (af false (aj aQ (af false (ae 0) am)) (af false (ae 1) am))))
def dG:cZ:=(a9 (aP 1 (c7 [none] (b_ (aj bi (af false (ae 0) am))) bw dl bx))
 (a9 (aP 2 (aj aH (af false (ae 0) am)))
 (a9 (gh (aj aN (af false (ae 2) am)))
 (bc (aj bq (af false (c7 [none,some 1] (b_ (aj bP (af false (ae 2) am))) dA cD dB) am))))))
def cm:List PyData→Option Sl:=gB 1 3 dG
def gv:fI:=(si (cB cM (af false (ae 0) am))
 (il (aP 1 (c7 [none] (b_ (aj bi (af false (ae 0) am))) bw dl bx))
 (il (aP 2 (aj aH (af false (ae 0) am)))
 (cB bt (af false (ae 2) am)))))
def dX:List PyData→Option Str:=rh 1 3 gv
def dg:cZ:=(bc (aj bi (af false (ae 0) am)))
def bE:List PyData→Option Sl:=gB 1 1 dg
def d9:fI:=(su ["NoNails"] "NoRule" (cB cM (af false (ae 0) am)))
def bW:List PyData→Option Str:=rh 1 1 d9
def oF:fI:=(cB bK (af false (ae 1) am))
def g9:List PyData→Option Str:=rh 2 2 oF
def dY:gA:=(bH 0)
def dZ:bj:=(aj aQ (af false (ae 0) am))
def fJ:gA:=(bH 0)
def fK:bj:=(aj aQ (af false (ae 0) am))
def fL:gA:=(bH 0)
def fM:bj:=(ae 0)
def fN:iT:=(bM (aj aG (af false (aj aQ (af false (ae 0) am)) (af false (ae 1) am))))
def fO:gA:=(bH 0)
def fP:bj:=(ae 0)
def fQ:iT:=(bM (aj aG (af false (aj aQ (af false (ae 0) am)) (af false (ae 1) am))))
def eR:cZ:=(a9 (aP 2 (aj aH (af false (ao bI false (ae 0) (ae 1)) am)))
 (a9 (gh (aj aN (af false (ae 2) am)))
 (a9 (aP 3 (c7 [none] (b_ (ae 0)) dY dl dZ))
 (a9 (aP 4 (c7 [none] (b_ (ae 1)) fJ dl fK))
 (a9 (aP 5 (c7 [none,some 3] (b_ (aj bP (af false (ae 2) am))) fL fN fM))
 (bc (aj bq (af false (c7 [none,some 4] (b_ (ae 5)) fO fQ fP) am))))))))
def cN:List PyData→Option Sl:=gB 2 6 eR
def ix:fI:=(il (aP 2 (aj aH (af false (ao bI false (ae 0) (ae 1)) am)))
 (cB bt (af false (ae 2) am)))
def dR:List PyData→Option Str:=rh 2 6 ix
def dS:cZ:=(a9 (gh (aj aN (af false (aj aH (af false (ao bI false (ae 0) (ae 1)) am)) am)))
 (bc (aj bq (af false (ao bI false (ae 0) (ae 1)) am))))
def cb:List PyData→Option Sl:=gB 2 2 dS
def gL:fI:=(cB bt (af false (aj aH (af false (ao bI false (ae 0) (ae 1)) am)) am))
def dH:List PyData→Option Str:=rh 2 2 gL
def dU:cZ:=(bc (aj cm (af false (ae 0) am)))
def cV:List PyData→Option Sl:=gB 1 1 dU
def gM:fI:=(cB dX (af false (ae 0) am))
def dI:List PyData→Option Str:=rh 1 1 gM
def gw:fI:=(si (cB bK (af false (ae 0) am))
 (il (aP 2 (aj b9 (af false (ae 0) am)))
 (si (cB bt (af false (ae 2) am))
 (il (gh (aj aN (af false (ae 2) am)))
 (pN (qr (aV (bM (aj cC (af false (ae 1) am)))) (aV (iN (iW (gK .le) (gK .le) false false (pC (.int 1)) (ae 1) (j5 j6 (af false (ae 2) am)))))) (iP "NoRule"))))))
def cE:List PyData→Option Str:=rh 2 3 gw
def fG:cZ:=(a9 (cg (aV (bM (iR (i0 .str) (ae 0))))
 e_
 bh)
 (a9 (aP 1 (ij 0 (pC (.str " "))))
 (a9 (cg (iN (ao (BW false) false (pC (.str "")) (ae 1)))
 e_
 bh)
 (bc (aj bE (af false (ae 1) am))))))
def dN:List PyData→Option Sl:=gB 1 2 fG
def gG:fI:=(si (pN (aV (bM (iR (i0 .str) (ae 0)))) (iP "NoRule"))
 (il (cg (aV (bM (iR (i0 .str) (ae 0))))
 e_
 bh)
 (il (aP 1 (ij 0 (pC (.str " "))))
 (si (pN (iN (ao (BW false) false (pC (.str "")) (ae 1))) (iP "NoRule"))
 (il (cg (iN (ao (BW false) false (pC (.str "")) (ae 1)))
 e_
 bh)
 (cB bW (af false (ae 1) am)))))))
def a7:List PyData→Option Str:=rh 1 2 gG
def lG:cZ:=(a9 (cg (iN (ao (kR (gK .lt)) false (ae 1) (j5 j6 (af false (ae 0) am))))
 (bc (ao zE false (ae 0) (ae 1)))
 bh)
 (bc (pC (.int 0))))
def du:List PyData→Option Sl:=gB 2 2 lG
def dJ:gA:=(bH 0)
def cW:bj:=(ao zE false (ae 1) (ao eM false (ao bI false (ae 2) (ao tT false (ae 0) (ae 3))) (pC (.int 26))))
def gH:cZ:=(a9 (aP 2 (pC (.str "abcdefghijklmnopqrstuvwxyz")))
 (a9 (aP 3 (ao zE false (cR (Aq [1,3,5,7,9,11,15,17,19,21,23,25])) (ao eM false (ao di false (ae 0) (pC (.int 26))) (pC (.int 12)))))
 (bc (c7 [none,some 2,some 0,some 3] (nO (af false (ae 1) am)) dJ dl cW))))
def bA:List PyData→Option Sl:=gB 2 4 gH
def ju:cZ:=(a9 (aP 1 (cR (aw (iR (j8 oq) (ae 0)) (aw (iR (j8 mJ) (ae 0)) (aw (iR (j8 ou) (ae 0)) (aw (iR (j8 ov) (ae 0)) cQ))))))
 (a9 (aP 1 (ao bI false (ae 1) (cR (aw (iR (j8 oA) (ae 0)) (aw (iR (j8 oD) (ae 0)) (aw (iR (j8 oE) (ae 0)) (aw (iR (j8 lC) (ae 0)) cQ)))))))
 (bc (ao bI false (ae 1) (cR (aw (iR (j8 mK) (ae 0)) (aw (iR (j8 mL) (ae 0)) cQ)))))))
def iy:List PyData→Option Sl:=gB 1 2 ju
def g_:gA:=(bH 0)
def hG:bj:=(ao oW false (ae 1) (ae 0))
def gN:cZ:=(bc (mE (iR (j8 jt) (ae 2)) (ao oW false (aj iy (af false (ae 2) am)) (c7 [none,some 1] (nO (af false (pC (.int 10)) am)) g_ dl hG))))
def aC:Str→PyData→Option Sl:=IV 3 2 gN
def iz:cZ:=(a9 (aP 1 (pC (.str "!\"#$&'()*+,-./0123456789:;<=>?@ABCDEFGHIJKLMNOPQRSTUVWXYZ[\\]^_`{|}~\n\t")))
 (bc (ao zE false (ae 1) (ao eM false (ae 0) (j5 j6 (af false (ae 1) am))))))
def c_:List PyData→Option Sl:=gB 1 2 iz
def cO:cZ:=(a9 (aP 1 (ao zE false (cR (aw (pC (.str "ab bc ca")) (aw (pC (.str "a")) (aw (pC (.str "abc")) (aw (pC (.str "q w e")) cQ))))) (ao eM false (ao di false (ae 0) (pC (.int 8))) (pC (.int 4)))))
 (a9 (aP 2 (ao eM false (ao di false (ae 0) (pC (.int 32))) (ao bI false (j5 j6 (af false (ae 1) am)) (pC (.int 1)))))
 (a9 (aP 3 (ao eM false (ae 0) (pC (.int 8))))
 (a9 (cg (iN (ao (kR (gK .lt)) false (ae 3) (pC (.int 3))))
 (bc (ao bI false (ao bI false (fW false (ae 1) eF (b7 (ae 2))) (aj c_ (af false (ao di false (ae 0) (pC (.int 5))) am))) (fW false (ae 1) (b7 (ae 2)) eF)))
 bh)
 (a9 (cg (iN (ao (kR (gK .lt)) false (ae 3) (pC (.int 6))))
 (bc (ao zE false (cR (aw (ao bI false (pC (.str " ")) (ae 1)) (aw (ao bI false (ae 1) (pC (.str " "))) (aw (ao bI false (wm 1 " " "  ") (pC (.str "  b"))) (aw (pC (.str "")) (aw (pC (.str " ")) (aw (pC (.str "a  b")) cQ))))))) (ao eM false (ao di false (ae 0) (pC (.int 8))) (pC (.int 6)))))
 bh)
 (bc (ao zE false (cR (aw (pC .none) (aw (pC (.int 3)) (aw (pC (.bool true)) (aw (cR (aw (pC (.str "a")) (aw (pC (.str "b")) cQ))) (aw (CA (aw (pC (.str "a")) cQ)) (aw FP cQ))))))) (ao eM false (ao di false (ae 0) (pC (.int 8))) (pC (.int 6))))))))))
def aM:List PyData→Option Sl:=gB 1 4 cO
def cX:cZ:=(a9 (cg (iN (ao (kR (gK .lt)) false (ao eM false (ae 0) (pC (.int 3))) (pC (.int 2))))
 (bc (ao bI false (ao bI false (fW false (pC (.str "kmn")) eF (b7 (ao eM false (ao di false (ae 0) (pC (.int 3))) (pC (.int 4))))) (aj c_ (af false (ao di false (ae 0) (pC (.int 12))) am))) (fW false (pC (.str "op")) eF (b7 (ao eM false (ao di false (ae 0) (pC (.int 5))) (pC (.int 3)))))))
 bh)
 (bc (ao zE false (cR (aw (pC .none) (aw (pC (.int 1)) (aw (pC (.bool true)) (aw (cR (aw (pC (.str "a")) cQ)) (aw (CA (aw (pC (.str "a")) cQ)) (aw FP (aw (pC (.bool false)) cQ)))))))) (ao eM false (ao di false (ae 0) (pC (.int 3))) (pC (.int 7))))))
def aR:List PyData→Option Sl:=gB 1 1 cX
def bU:cZ:=(a9 (aP 2 (ao di false (ae 0) (pC (.int 3))))
 (a9 (cg (iN (ao oW false (ao eM false (ae 0) (pC (.int 3))) (pC (.int 0))))
 (bc (ao bI false (ao bI false (ae 1) (pC (.int 1))) (ao eM false (ae 2) (ao Fa false (pC (.int 10)) (pC (.int 30))))))
 bh)
 (a9 (cg (iN (ao oW false (ao eM false (ae 0) (pC (.int 3))) (pC (.int 1))))
 (bc (ao GY false (pC (.int 0)) (ao eM false (ae 2) (ao Fa false (pC (.int 10)) (pC (.int 30))))))
 bh)
 (bc (ao zE false (cR (aw (pC (.bool true)) (aw (pC .none) (aw (pC (.str "1")) (aw (pC (.int 0)) (aw (ao bI false (ae 1) (pC (.int 1))) (aw (cR (aw (pC (.int 1)) cQ)) (aw (iR Fc (pC (.int 1))) cQ)))))))) (ao eM false (ae 2) (pC (.int 7))))))))
def aI:List PyData→Option Sl:=gB 2 3 bU
def cG:cZ:=(a9 (aP 1 (aj bA (af false (ae 0) (af false (pC (.int 16)) am))))
 (a9 (aP 2 (ao bI false (pC (.int 1)) (ao eM false (ao di false (ae 0) (pC (.int 5))) (pC (.int 10)))))
 (a9 (aP 3 (fX (fW false (ae 1) eF (b7 (ae 2)))))
 (a9 (aP 4 (cR (aw (fB "" (fX (fW false (ae 1) (b7 (ae 2)) (b7 (ao bI false (pC (.int 11)) (ao eM false (ao di false (ae 0) (pC (.int 50))) (pC (.int 6)))))))) cQ)))
 (a9 (cg (aV (bM (jf [3,4] 2 dR (af false (ae 0) (af false (ae 1) am)) ["NoNails","NoRule","TooMany"] aC 8)))
 (bc (pC (.bool false)))
 bh)
 (a9 (cg (aV (bM (jf [4,3] 2 dH (af false (ae 0) (af false (ae 1) am)) ["NoNails","NoRule","TooMany"] aC 8)))
 (bc (pC (.bool false)))
 bh)
 (a9 (aP 4 (cR (aw (fB "" (fX (ao bI false (fW false (ae 1) eF (b7 (ae 2))) (fW false (ae 1) (b7 (ae 2)) (b7 (pC (.int 10))))))) cQ)))
 (bc (mE (ao oW false (aj cN (af false (ae 3) (af false (ae 4) am))) (ae 4)) (ao oW false (aj cb (af false (ae 3) (af false (ae 4) am))) (ae 3)))))))))))
def bL:List PyData→Option Sl:=gB 1 5 cG
def a_:gA:=(bH 5)
def ba:cZ:=(a9 (cg (aV (bM (jf [1,5] 2 cE (af false (ae 0) (af false (ae 1) am)) ["NoNails","NoRule","TooMany"] aC 1)))
 (bc (pC (.bool false)))
 bh)
 (cg (aV (bM (jf [2,5] 2 cE (af false (ae 0) (af false (ae 1) am)) ["NoNails","NoRule","TooMany"] aC 8)))
 (bc (pC (.bool false)))
 bh))
def bB:cZ:=(a9 (aP 1 (aj aR (af false (ae 0) am)))
 (a9 (aP 2 (fB "" (aj bA (af false (ae 0) (af false (ao bI false (pC (.int 11)) (ao eM false (ae 0) (pC (.int 5)))) am)))))
 (a9 (aP 3 (fB "" (aj bA (af false (ae 0) (af false (ao eM false (ao di false (ae 0) (pC (.int 7))) (pC (.int 8))) am)))))
 (a9 (aP 4 (aj aI (af false (ao di false (ae 0) (pC (.int 11))) (af false (j5 j6 (af false (ae 3) am)) am))))
 (a9 (i7 (b_ (cR (aw (pC (.int 1)) (aw (ae 4) cQ)))) a_
 ba)
 (a9 (cg (aV (bM (jf [3,4] 2 cE (af false (ae 0) (af false (ae 1) am)) ["NoNails","NoRule","TooMany"] aC 2)))
 (bc (pC (.bool false)))
 bh)
 (a9 (cg (aV (bM (jf [1] 1 g9 (af false (cR (aw (pC (.str "ab")) (aw (pC (.str "cd")) cQ))) (af false (ae 0) am)) ["NoNails","NoRule","TooMany"] aC 1)))
 (bc (pC (.bool false)))
 bh)
 (a9 (aP 6 (kr (ae 2)))
 (a9 (cg (aV (bM (jf [6] 1 dI (af false (ae 0) am) ["NoNails","NoRule","TooMany"] aC 8)))
 (bc (pC (.bool false)))
 bh)
 (bc (ao oW false (aj cV (af false (kr (fW false (ae 2) eF (b7 (pC (.int 10))))) am)) (cR (aw (fB "" (kr (fW false (ae 2) eF (b7 (pC (.int 10)))))) cQ)))))))))))))
def aZ:List PyData→Option Sl:=gB 1 7 bB
def hJ:gA:=(bH 1)
def hM:cZ:=(a9 (aP 2 (aj aM (af false (ae 1) am)))
 (a9 (cg (aV (bM (jf [2] 1 a7 (af false (ae 0) am) ["NoNails","NoRule","TooMany"] aC 2)))
 (bc (pC (.bool false)))
 bh)
 (a9 (cg (qr (aV (bM (aj aZ (af false (ao di false (ae 1) (pC (.int 3))) am)))) (aV (bM (aj bL (af false (ao di false (ae 1) (pC (.int 7))) am)))))
 (bc (pC (.bool false)))
 bh)
 (cg (iN (ao GZ false (aj dN (af false (pC (.str "ba c")) am)) (cR (aw (pC (.str "c")) (aw (pC (.str "ab")) cQ)))))
 (bc (pC (.bool false)))
 bh))))
def sN:cZ:=(a9 (i7 (b_ (ao bI false (fW false (ae 0) eF (b7 (pC (.int 16)))) (cR (aw (ao bI false (aj du (af false (ae 0) (af false (pC (.int 0)) am))) (pC (.int 7))) cQ)))) hJ
 hM)
 (bc (pC (.bool true))))
def kC:List PyData→Option Sl:=gB 1 3 sN
end Nhk46
namespace Nhk46
open PySem L2 Nh PL
def kD(i:Nat):Stmt:=PySem.Challenge.pw_nailhang_k46_rules_refused.main.body.getD i (.Pass ⟨0,0,0,0⟩)
structure XF (K:Frag) (mg:Str→Option Value):Prop where
 c_NoCord:∃C,mg "NoCord"=some (.ref C)∧XT K (.ref C) oq
 c_NoNails:∃C,mg "NoNails"=some (.ref C)∧XT K (.ref C) mJ∧XC K mg "NoNails" C
 c_NoRule:∃C,mg "NoRule"=some (.ref C)∧XT K (.ref C) ou∧XC K mg "NoRule" C
 c_NoText:∃C,mg "NoText"=some (.ref C)∧XT K (.ref C) ov
 c_NoMove:∃C,mg "NoMove"=some (.ref C)∧XT K (.ref C) oA
 c_NoLine:∃C,mg "NoLine"=some (.ref C)∧XT K (.ref C) oD
 c_NoName:∃C,mg "NoName"=some (.ref C)∧XT K (.ref C) oE
 c_NoNumber:∃C,mg "NoNumber"=some (.ref C)∧XT K (.ref C) lC
 c_TooMany:∃C,mg "TooMany"=some (.ref C)∧XT K (.ref C) mK∧XC K mg "TooMany" C
 c_TooLong:∃C,mg "TooLong"=some (.ref C)∧XT K (.ref C) mL
 v_ValueError:mg "ValueError"=none∧XT K (.type "ValueError") jt
 e_HangError:∃C,mg "HangError"=some (.ref C)∧∀n∈[("NoNails":Str),("NoRule":Str),("TooMany":Str)],∀D,nsIn K mainGlobals n=some (some (.ref D))→exmOne K (.ref D) (.ref C)=some true
 e_NoNails:∃C,mg "NoNails"=some (.ref C)∧∀n∈[("NoNails":Str)],∀D,nsIn K mainGlobals n=some (some (.ref D))→exmOne K (.ref D) (.ref C)=some true
abbrev ma:Stmt:=kD 13
abbrev kE:Stmt:=kD 14
abbrev oG:Stmt:=kD 16
abbrev md:Stmt:=kD 20
abbrev cq:Stmt:=kD 21
abbrev fg:Stmt:=kD 22
abbrev iA:Stmt:=kD 23
abbrev kF:Stmt:=kD 24
abbrev kG:Stmt:=kD 25
abbrev iB:Stmt:=kD 26
abbrev gO:Stmt:=kD 27
abbrev iC:Stmt:=kD 28
abbrev gy:Stmt:=kD 29
abbrev d_:Stmt:=kD 31
abbrev oH:Stmt:=kD 32
abbrev iD:Stmt:=kD 33
abbrev gP:Stmt:=kD 34
abbrev gQ:Stmt:=kD 35
abbrev kH:Stmt:=kD 36
abbrev jv:Stmt:=kD 38
abbrev oI:Stmt:=kD 40
abbrev jw:Stmt:=kD 42
abbrev jx:Stmt:=kD 43
abbrev gR:Stmt:=kD 44
abbrev kI:Stmt:=kD 45
abbrev gS:Stmt:=kD 46
abbrev gz:Stmt:=kD 47
abbrev fR:Stmt:=kD 48
abbrev bS:Stmt:=kD 49
abbrev a8:Stmt:=kD 50
abbrev lH:Stmt:=kD 51
structure Md (K:Frag) (mg:Str→Option Value):Prop where
 B:Bn mg
 e_is_nail:Def K mg "is_nail" ma ["thing"]
 e_is_whole:Def K mg "is_whole" kE ["thing"]
 e_set_of:Def K mg "set_of" oG ["nails"]
 e_bits_of:Def K mg "bits_of" md ["nails"]
 e_in_told_order:∃c T,DefT K mg "in_told_order" cq ["sets"] c T
 e_has_part_among:Def K mg "has_part_among" fg ["bits","parts"]
 e_meets_each:Def K mg "meets_each" iA ["bits","others"]
 e_least_of:Def K mg "least_of" kF ["sets"]
 e_all_sets:Def K mg "all_sets" kG ["nails"]
 e_check_many:Def K mg "check_many" iB ["nails"]
 e_nails_among:Def K mg "nails_among" gO ["sets"]
 e_least_sets:Def K mg "least_sets" iC ["family"]
 e_meeting_sets:Def K mg "meeting_sets" gy ["family"]
 e_least_or_no_rule:Def K mg "least_or_no_rule" d_ ["sets"]
 e_breaks:Def K mg "breaks" oH ["rule","nails"]
 e_both_rules:Def K mg "both_rules" iD ["rule","second"]
 e_either_rule:Def K mg "either_rule" gP ["rule","second"]
 e_turned_rule:Def K mg "turned_rule" gQ ["rule"]
 e_at_least:Def K mg "at_least" kH ["nails","number"]
 e_read_rule:Def K mg "read_rule" jv ["text"]
 e_law_at:Def K mg "_law_at" oI ["_law_script","_law_k"]
 e_law_nails:Def K mg "_law_nails" jw ["_law_cell","_law_many"]
 e_law_kinds:Def K mg "_law_kinds" jx ["_law_e"]
 e_law_refused:Def K mg "_law_refused" gR ["_law_deed","_law_due"]
 e_law_sign:Def K mg "_law_sign" kI ["_law_cell"]
 e_law_no_rule:Def K mg "_law_no_rule" gS ["_law_cell"]
 e_law_no_nails:Def K mg "_law_no_nails" gz ["_law_cell"]
 e_law_no_number:Def K mg "_law_no_number" fR ["_law_cell","_law_many"]
 e_law_two_refused:∃c T,DefT K mg "_law_two_refused" bS ["_law_cell"] c T
 e_law_at_least_refused:∃c T,DefT K mg "_law_at_least_refused" a8 ["_law_cell"] c T
 G_LETTERS:∃t,mg "LETTERS"=some (.str "abcdefghijklmnopqrstuvwxyz" t)
 G_MOST_NAILS:∃t,mg "MOST_NAILS"=some (.int 10 t)
 XX:XF K mg
section
variable {P:Program} {w:World} {K:Frag} {mg:Str→Option Value} {base:Heap}
theorem xo{c:List PyData→Option Sl}{es:List Expr}{g:lM}(D:Own X.prog X.w X.K X.mg X.base k x ps (gY X.K c))(ha:AX X (e::es) m g)(hr:Room k X.A:=by exact Room.mono (by assumption) (by first |decide |omega))(hg:Gl X x:=by rfl)
  (hdb:(x == ("__debug__":Str))=false:=by decide) (he:starEach (e::es) X.env=(false,eval e X.env)::starEach es X.env:=by rfl) (hpl:(backTo pos (starEach es X.env)).any (·.1)=false:=by rfl):EX X (.Call (.Name x p) (e::es) [] pos) m (aj c g):=Fo D hr hg ha hdb he hpl
theorem S0:FnScope ["thing"] ["thing"] (ai ma):=by and_intros
theorem kJ(M:Md K mg):Own P w K mg base 1 "is_nail" ["thing"] (gY K bJ):=by
 delta bJ
 refine gi (g:=gc) M.e_is_nail S0 rfl rfl (by decide) fun f cdv A outer s H E hr=>?_
 delta gc
 exact(ar (aJ (nN (ie .str (by rfl) (by exact M.B.isinstance) (aa 0) (by rfl) (by exact M.B.str) PyProof.Rows.boot_str) (nN (py hr.units (iZ (by rfl) (by exact M.B.len) (ah (aa 0) aq)) au) (qu (G8 .le .le bg (aa 0) bg))))))
theorem S4:FnScope ["thing"] ["thing"] (ai kE):=by and_intros
theorem sO(M:Md K mg):Own P w K mg base 1 "is_whole" ["thing"] (gY K cC):=by
 delta cC
 refine gi (g:=iv) M.e_is_whole S4 rfl rfl (by decide) fun f cdv A outer s H E hr=>?_
 delta iv
 exact(ar (aJ (nN (ie .int (by rfl) (by exact M.B.isinstance) (aa 0) (by rfl) (by exact M.B.int) PyProof.Rows.boot_int) (qu (Ff (ie .bool (by rfl) (by exact M.B.isinstance) (aa 0) (by rfl) (by exact M.B.bool) PyProof.Rows.boot_bool))))))
theorem S5:FnScope ["nails","sign"] ["nails"] (ai oG):=by and_intros
theorem j0(M:Md K mg):Own P w K mg base 2 "set_of" ["nails"] (gY K b9):=by
 obtain⟨C_NoNails,m_NoNails,t_NoNails,z_NoNails⟩:=M.XX.c_NoNails
 delta b9
 refine gi (g:=lD) M.e_set_of S5 rfl rfl (by decide) fun f cdv A outer s H E hr=>?_
 delta lD
 exact(ak (cy (cf (bZ (ie .str (by rfl) (by exact M.B.isinstance) (aa 0) (by rfl) (by exact M.B.str) PyProof.Rows.boot_str)))
 (ar eN)
 aX)
 (ak (i8 PassesOwn.never (by rfl) (de (aa 0)) (by delta bF;exact(bN 1 S5.nd))
 (by delta bG;exact(ar (cy (cf (bZ (xo (kJ M) (ah (aa 1) aq))))
 (ar eN)
 aX))))
 (ar (aJ (ig (uF rfl (by rfl) (by exact M.B.sorted) (by rfl) (by exact M.B.set) (aa 0)))))))
theorem kK(M:Md K mg):OwnR P w K mg base 2 "set_of" ["nails"] (qC K bK):=by
 obtain⟨C_NoNails,m_NoNails,t_NoNails,z_NoNails⟩:=M.XX.c_NoNails
 delta bK
 refine oh (mk:=true) (al:=true) (r:=lE) M.e_set_of S5 rfl rfl (by decide) fun f cdv A outer s H E hr=>?_
 delta lE
 exact(pP (bn (pO (cf (bZ (ie .str (by rfl) (by exact M.B.isinstance) (aa 0) (by rfl) (by exact M.B.str) PyProof.Rows.boot_str))) (bn (g5 (by rfl) (by rfl) z_NoNails))))
 (io (cy (cf (bZ (ie .str (by rfl) (by exact M.B.isinstance) (aa 0) (by rfl) (by exact M.B.str) PyProof.Rows.boot_str)))
 (ar eN)
 aX)
 (bn (FO rfl rfl (by rfl) (fun W=>(de (aa 0))) (fun W=>by delta bF;exact(bN 1 S5.nd)) (by delta bG;exact(ar (cy (cf (bZ (xo (kJ M) (ah (aa 1) aq))))
 (ar eN)
 aX))) (fun W=>(bn (pO (cf (bZ (xo (kJ M) (ah (aa 1) aq)))) (bn (g5 (by rfl) (by rfl) z_NoNails)))))))))
theorem S6:FnScope ["nails","bits","bit","letter"] ["nails"] (ai md):=by and_intros
theorem dh(M:Md K mg):Own P w K mg base 1 "bits_of" ["nails"] (gY K aQ):=by
 obtain⟨t_LETTERS,G_LETTERS⟩:=M.G_LETTERS
 delta aQ
 refine gi (g:=jZ) M.e_bits_of S6 rfl rfl (by decide) fun f cdv A outer s H E hr=>?_
 delta jZ
 exact(ak (aO 1 S6.nd au)
 (ak (aO 2 S6.nd au)
 (ak (i8 PassesOwn.never (by rfl) (de (CG (by rfl) (by exact G_LETTERS))) (by delta eO;exact(bN 3 S6.nd))
 (by delta eP;exact(ak (cy (we (aa 3) (aa 0))
 (ar (aO 1 S6.nd (bO (aa 1) (aa 2))))
 aX)
 (ar (aO 2 S6.nd (Ad (aa 2) au))))))
 (ar (aJ (aa 1))))))
theorem S7:FnScope ["sets"] ["sets"] (ai cq):=by and_intros
theorem me(M:Md K mg):Own P w K mg base 1 "in_told_order" ["sets"] (gY K bp):=by
 obtain⟨c,T,D⟩:=M.e_in_told_order
 delta bp
 refine FV (g:=dW) D S7 rfl rfl (by decide) fun f A outer s H E hr=>?_
 delta dW
 exact(ar (aJ (Bg rfl D.tp D.hd hr (by rfl) (by exact M.B.sorted) (by exact M.B.len) (aa 0) (by show(Str.ofString "in_told_order"++Str.ofString ".<locals>.")++Str.ofString "<lambda>"=_;decide+kernel))))
theorem S8:FnScope ["bits","parts","part"] ["bits","parts"] (ai fg):=by and_intros
theorem dC(M:Md K mg):Own P w K mg base 1 "has_part_among" ["bits","parts"] (gY K aG):=by
 delta aG
 refine gi (g:=cU) M.e_has_part_among S8 rfl rfl (by decide) fun f cdv A outer s H E hr=>?_
 delta cU
 exact(ak (i8 PassesOwn.never (by rfl) (de (aa 1)) (by delta bD;exact(bN 2 S8.nd))
 (by delta be;exact(ar (cy (wa hr.units (wd (aa 2) (aa 0)) (aa 2))
 (ar (aJ eK))
 aX))))
 (ar (aJ eK)))
theorem S9:FnScope ["bits","others","other"] ["bits","others"] (ai iA):=by and_intros
theorem o6(M:Md K mg):Own P w K mg base 1 "meets_each" ["bits","others"] (gY K cK):=by
 delta cK
 refine gi (g:=eQ) M.e_meets_each S9 rfl rfl (by decide) fun f cdv A outer s H E hr=>?_
 delta eQ
 exact(ak (i8 PassesOwn.never (by rfl) (de (aa 1)) (by delta ci;exact(bN 2 S9.nd))
 (by delta bT;exact(ar (cy (wa hr.units (wd (aa 2) (aa 0)) au)
 (ar (aJ eK))
 aX))))
 (ar (aJ eK)))
theorem Sa:FnScope ["sets","told","kept","nails","bits"] ["sets"] (ai kF):=by and_intros
theorem fH(M:Md K mg):Own P w K mg base 2 "least_of" ["sets"] (gY K bq):=by
 delta bq
 refine gi (g:=gr) M.e_least_of Sa rfl rfl (by decide) fun f cdv A outer s H E hr=>?_
 delta gr
 exact(ak (aO 1 Sa.nd (cS DL.nil))
 (ak (aO 2 Sa.nd (cS DL.nil))
 (ak (i8 PassesOwn.never (by rfl) (de (xo (me M) (ah (aa 0) aq))) (by delta cL;exact(bN 3 Sa.nd))
 (by delta b8;exact(ak (aO 4 Sa.nd (xo (dh M) (ah (aa 3) aq)))
 (ar (cy (cf (bZ (xo (dC M) (ah (aa 4) (ah (aa 2) aq)))))
 (ak (jQ (pz 2 (aa 4)))
 (ar (jQ (pz 1 (aa 3)))))
 aX)))))
 (ar (aJ (aa 1))))))
theorem Sb:FnScope ["nails","sets","nail"] ["nails"] (ai kG):=by and_intros
theorem mM(M:Md K mg):Own P w K mg base 1 "all_sets" ["nails"] (gY K bP):=by
 delta bP
 refine gi (g:=gu) M.e_all_sets Sb rfl rfl (by decide) fun f cdv A outer s H E hr=>?_
 delta gu
 exact(ak (aO 1 Sb.nd (cS (DL.cons bg rfl DL.nil)))
 (ak (i8 PassesOwn.never (by rfl) (de (aa 0)) (by delta dm;exact(bN 2 Sb.nd))
 (by delta dq;exact(ar (aO 1 Sb.nd (bO (aa 1) (gj (N:=["chosen","nail"]) (js:=[none,some 2]) g0 (by rfl) (de (aa 1)) (fun _ _ _ _=>(by delta fm;exact(bN 0 (show(["chosen","nail"]:List Str).Nodup by decide+kernel)))) (fun _ _ _ _=>(by delta dQ;exact(bO (aa 0) (aa 1))))))))))
 (ar (aJ (aa 1)))))
theorem Sc:FnScope ["nails"] ["nails"] (ai iB):=by and_intros
theorem ft(M:Md K mg):Own P w K mg base 1 "check_many" ["nails"] (gY K aN):=by
 obtain⟨t_MOST_NAILS,G_MOST_NAILS⟩:=M.G_MOST_NAILS
 obtain⟨C_TooMany,m_TooMany,t_TooMany,z_TooMany⟩:=M.XX.c_TooMany
 delta aN
 refine gi (g:=fZ) M.e_check_many Sc rfl rfl (by decide) fun f cdv A outer s H E hr=>?_
 delta fZ
 exact(ar (cy (pH .gt (iZ (by rfl) (by exact M.B.len) (ah (aa 0) aq)) (wj (by rfl) (by exact G_MOST_NAILS)))
 (ar eN)
 aX))
theorem eS(M:Md K mg):OwnR P w K mg base 1 "check_many" ["nails"] (qC K bt):=by
 obtain⟨t_MOST_NAILS,G_MOST_NAILS⟩:=M.G_MOST_NAILS
 obtain⟨C_TooMany,m_TooMany,t_TooMany,z_TooMany⟩:=M.XX.c_TooMany
 delta bt
 refine oh (mk:=true) (al:=true) (r:=iw) M.e_check_many Sc rfl rfl (by decide) fun f cdv A outer s H E hr=>?_
 delta iw
 exact(bn (pO (pH .gt (iZ (by rfl) (by exact M.B.len) (ah (aa 0) aq)) (wj (by rfl) (by exact G_MOST_NAILS))) (bn (g5 (by rfl) (by rfl) z_TooMany))))
theorem Sd:FnScope ["sets"] ["sets"] (ai gO):=by and_intros
theorem cY(M:Md K mg):Own P w K mg base 3 "nails_among" ["sets"] (gY K aH):=by
 delta aH
 refine gi (g:=fq) M.e_nails_among Sd rfl rfl (by decide) fun f cdv A outer s H E hr=>?_
 delta fq
 exact(ar (aJ (xo (j0 M) (ah (ig (aa 0)) aq))))
theorem Se:FnScope ["family"] ["family"] (ai iC):=by and_intros
theorem gT(M:Md K mg):Own P w K mg base 3 "least_sets" ["family"] (gY K bi):=by
 delta bi
 refine gi (g:=f8) M.e_least_sets Se rfl rfl (by decide) fun f cdv A outer s H E hr=>?_
 delta f8
 exact(ar (aJ (xo (fH M) (ah (gj (N:=["nails"]) (js:=[none]) d0 (by rfl) (de (aa 0)) (fun _ _ _ _=>(by delta cj;exact(bN 0 (show(["nails"]:List Str).Nodup by decide+kernel)))) (fun _ _ _ _=>(by delta ck;exact(xo (j0 M) (ah (aa 0) aq))))) aq))))
theorem jy(M:Md K mg):OwnR P w K mg base 3 "least_sets" ["family"] (qC K cM):=by
 delta cM
 refine oh (mk:=true) (al:=true) (r:=f_) M.e_least_sets Se rfl rfl (by decide) fun f cdv A outer s H E hr=>?_
 delta f_
 exact(bn (wu (uR (fH M) (by rfl) (C3 (N:=["nails"]) (js:=[none]) d0 rfl rfl (by rfl) (de (aa 0)) (fun _ _ _ _=>(bN 0 (show(["nails"]:List Str).Nodup by decide+kernel))) (fun _ _ _ _=>(xo (j0 M) (ah (aa 0) aq))) (fun _ _ _ _ _=>(qF (kK M) (hr.mono (by decide)) (by rfl) (ah (aa 0) aq)))))))
theorem Sf:FnScope ["family","others","nails"] ["family"] (ai gy):=by and_intros
theorem mT(M:Md K mg):Own P w K mg base 4 "meeting_sets" ["family"] (gY K cm):=by
 delta cm
 refine gi (g:=dG) M.e_meeting_sets Sf rfl rfl (by decide) fun f cdv A outer s H E hr=>?_
 delta dG
 exact(ak (aO 1 Sf.nd (gj (N:=["nails"]) (js:=[none]) d0 (by rfl) (de (xo (gT M) (ah (aa 0) aq))) (fun _ _ _ _=>(by delta bw;exact(bN 0 (show(["nails"]:List Str).Nodup by decide+kernel)))) (fun _ _ _ _=>(by delta bx;exact(xo (dh M) (ah (aa 0) aq))))))
 (ak (aO 2 Sf.nd (xo (cY M) (ah (aa 0) aq)))
 (ak (jQ (xo (ft M) (ah (aa 2) aq)))
 (ar (aJ (xo (fH M) (ah (rJ (N:=["chosen","others"]) (js:=[none,some 1]) g0 (by rfl) (de (xo (mM M) (ah (aa 2) aq))) (fun _ _ _ _=>(by delta dA;exact(bN 0 (show(["chosen","others"]:List Str).Nodup by decide+kernel)))) (fun _ _ _ _=>(by delta cD;exact(bZ (xo (o6 M) (ah (xo (dh M) (ah (aa 0) aq)) (ah (aa 1) aq)))))) (fun _ _ _ _=>(by delta dB;exact(aa 0)))) aq)))))))
theorem mf(M:Md K mg):OwnR P w K mg base 4 "meeting_sets" ["family"] (qC K dX):=by
 delta dX
 refine oh (mk:=true) (al:=true) (r:=gv) M.e_meeting_sets Sf rfl rfl (by decide) fun f cdv A outer s H E hr=>?_
 delta gv
 exact(pP (bn (CY (C4 (N:=["nails"]) (js:=[none]) d0 (qF (jy M) (hr.mono (by decide)) (by rfl) (ah (aa 0) aq)))))
 (io (aO 1 Sf.nd (gj (N:=["nails"]) (js:=[none]) d0 (by rfl) (de (xo (gT M) (ah (aa 0) aq))) (fun _ _ _ _=>(by delta bw;exact(bN 0 (show(["nails"]:List Str).Nodup by decide+kernel)))) (fun _ _ _ _=>(by delta bx;exact(xo (dh M) (ah (aa 0) aq))))))
 (io (aO 2 Sf.nd (xo (cY M) (ah (aa 0) aq)))
 (bn (m9 (eS M) (hr.mono (by decide)) (by rfl) (ah (aa 2) aq))))))
theorem Sh:FnScope ["sets"] ["sets"] (ai d_):=by and_intros
theorem j9(M:Md K mg):Own P w K mg base 4 "least_or_no_rule" ["sets"] (gY K bE):=by
 obtain⟨C_NoNails,m_NoNails,e_NoNails⟩:=M.XX.e_NoNails
 obtain⟨C_NoRule,m_NoRule,t_NoRule,z_NoRule⟩:=M.XX.c_NoRule
 delta bE
 refine gi (g:=dg) M.e_least_or_no_rule Sh rfl rfl (by decide) fun f cdv A outer s H E hr=>?_
 delta dg
 exact(ar (FY rfl
 (ar (aJ (xo (gT M) (ah (aa 0) aq))))))
theorem jz(M:Md K mg):OwnR P w K mg base 4 "least_or_no_rule" ["sets"] (qC K bW):=by
 obtain⟨C_NoNails,m_NoNails,e_NoNails⟩:=M.XX.e_NoNails
 obtain⟨C_NoRule,m_NoRule,t_NoRule,z_NoRule⟩:=M.XX.c_NoRule
 delta bW
 refine oh (mk:=true) (al:=true) (r:=d9) M.e_least_or_no_rule Sh rfl rfl (by decide) fun f cdv A outer s H E hr=>?_
 delta d9
 exact(bn (CW rfl rfl rfl (by rfl) (by exact m_NoNails) e_NoNails (fun W=>(bn (uN (jy M) (hr.mono (by decide)) (by rfl) (ah (aa 0) aq)))) (by rfl) z_NoRule))
theorem Si:FnScope ["rule","nails"] ["rule","nails"] (ai oH):=by and_intros
theorem uZ(M:Md K mg):OwnR P w K mg base 3 "breaks" ["rule","nails"] (qC K g9):=by
 delta g9
 refine oh (mk:=true) (al:=true) (r:=oF) M.e_breaks Si rfl rfl (by decide) fun f cdv A outer s H E hr=>?_
 delta oF
 exact(bn (wu (uR (dC M) (by rfl) (uR (dh M) (by rfl) (qF (kK M) (hr.mono (by decide)) (by rfl) (ah (aa 1) aq))))))
theorem Sj:FnScope ["rule","second","nails","first_parts","second_parts","broken"] ["rule","second"] (ai iD):=by and_intros
theorem o8(M:Md K mg):Own P w K mg base 4 "both_rules" ["rule","second"] (gY K cN):=by
 delta cN
 refine gi (g:=eR) M.e_both_rules Sj rfl rfl (by decide) fun f cdv A outer s H E hr=>?_
 delta eR
 exact(ak (aO 2 Sj.nd (xo (cY M) (ah (bO (aa 0) (aa 1)) aq)))
 (ak (jQ (xo (ft M) (ah (aa 2) aq)))
 (ak (aO 3 Sj.nd (gj (N:=["chosen"]) (js:=[none]) d0 (by rfl) (de (aa 0)) (fun _ _ _ _=>(by delta dY;exact(bN 0 (show(["chosen"]:List Str).Nodup by decide+kernel)))) (fun _ _ _ _=>(by delta dZ;exact(xo (dh M) (ah (aa 0) aq))))))
 (ak (aO 4 Sj.nd (gj (N:=["chosen"]) (js:=[none]) d0 (by rfl) (de (aa 1)) (fun _ _ _ _=>(by delta fJ;exact(bN 0 (show(["chosen"]:List Str).Nodup by decide+kernel)))) (fun _ _ _ _=>(by delta fK;exact(xo (dh M) (ah (aa 0) aq))))))
 (ak (Ap 5 Sj.nd (N:=["chosen","first_parts"]) (js:=[none,some 3]) g0 (by rfl) (de (xo (mM M) (ah (aa 2) aq))) (fun _ _ _ _=>(by delta fL;exact(bN 0 (show(["chosen","first_parts"]:List Str).Nodup by decide+kernel)))) (fun _ _ _ _=>(by delta fN;exact(bZ (xo (dC M) (ah (xo (dh M) (ah (aa 0) aq)) (ah (aa 1) aq)))))) (fun _ _ _ _=>(by delta fM;exact(aa 0))))
 (ar (aJ (xo (fH M) (ah (rJ (N:=["chosen","second_parts"]) (js:=[none,some 4]) g0 (by rfl) (de (aa 5)) (fun _ _ _ _=>(by delta fO;exact(bN 0 (show(["chosen","second_parts"]:List Str).Nodup by decide+kernel)))) (fun _ _ _ _=>(by delta fQ;exact(bZ (xo (dC M) (ah (xo (dh M) (ah (aa 0) aq)) (ah (aa 1) aq)))))) (fun _ _ _ _=>(by delta fP;exact(aa 0)))) aq)))))))))
theorem oJ(M:Md K mg):OwnR P w K mg base 4 "both_rules" ["rule","second"] (qC K dR):=by
 delta dR
 refine oh (mk:=true) (al:=true) (r:=ix) M.e_both_rules Sj rfl rfl (by decide) fun f cdv A outer s H E hr=>?_
 delta ix
 exact(io (aO 2 Sj.nd (xo (cY M) (ah (bO (aa 0) (aa 1)) aq)))
 (bn (m9 (eS M) (hr.mono (by decide)) (by rfl) (ah (aa 2) aq))))
theorem Sk:FnScope ["rule","second"] ["rule","second"] (ai gP):=by and_intros
theorem oK(M:Md K mg):Own P w K mg base 4 "either_rule" ["rule","second"] (gY K cb):=by
 delta cb
 refine gi (g:=dS) M.e_either_rule Sk rfl rfl (by decide) fun f cdv A outer s H E hr=>?_
 delta dS
 exact(ak (jQ (xo (ft M) (ah (xo (cY M) (ah (bO (aa 0) (aa 1)) aq)) aq)))
 (ar (aJ (xo (fH M) (ah (bO (aa 0) (aa 1)) aq)))))
theorem mU(M:Md K mg):OwnR P w K mg base 4 "either_rule" ["rule","second"] (qC K dH):=by
 delta dH
 refine oh (mk:=true) (al:=true) (r:=gL) M.e_either_rule Sk rfl rfl (by decide) fun f cdv A outer s H E hr=>?_
 delta gL
 exact(bn (m9 (eS M) (hr.mono (by decide)) (by rfl) (ah (xo (cY M) (ah (bO (aa 0) (aa 1)) aq)) aq)))
theorem Sm:FnScope ["rule"] ["rule"] (ai gQ):=by and_intros
theorem oM(M:Md K mg):Own P w K mg base 5 "turned_rule" ["rule"] (gY K cV):=by
 delta cV
 refine gi (g:=dU) M.e_turned_rule Sm rfl rfl (by decide) fun f cdv A outer s H E hr=>?_
 delta dU
 exact(ar (aJ (xo (mT M) (ah (aa 0) aq))))
theorem mV(M:Md K mg):OwnR P w K mg base 5 "turned_rule" ["rule"] (qC K dI):=by
 delta dI
 refine oh (mk:=true) (al:=true) (r:=gM) M.e_turned_rule Sm rfl rfl (by decide) fun f cdv A outer s H E hr=>?_
 delta gM
 exact(bn (uN (mf M) (hr.mono (by decide)) (by rfl) (ah (aa 0) aq)))
theorem Sn:FnScope ["nails","number","told"] ["nails","number"] (ai kH):=by and_intros
theorem iE(M:Md K mg):OwnR P w K mg base 3 "at_least" ["nails","number"] (qC K cE):=by
 obtain⟨C_NoRule,m_NoRule,t_NoRule,z_NoRule⟩:=M.XX.c_NoRule
 delta cE
 refine oh (mk:=true) (al:=true) (r:=gw) M.e_at_least Sn rfl rfl (by decide) fun f cdv A outer s H E hr=>?_
 delta gw
 exact(pP (bn (FK (kK M) (hr.mono (by decide)) (by rfl) (ah (aa 0) aq)))
 (io (aO 2 Sn.nd (xo (j0 M) (ah (aa 0) aq)))
 (pP (bn (m9 (eS M) (hr.mono (by decide)) (by rfl) (ah (aa 2) aq)))
 (io (jQ (xo (ft M) (ah (aa 2) aq)))
 (bn (pO (G1 (D1 (cf (bZ (xo (sO M) (ah (aa 1) aq)))) (Ai (cf (G9 .le .le au (aa 1) (iZ (by rfl) (by exact M.B.len) (ah (aa 2) aq))))))) (bn (g5 (by rfl) (by rfl) z_NoRule))))))))
theorem Sq:FnScope ["text","words"] ["text"] (ai jv):=by and_intros
theorem qJ(M:Md K mg):Own P w K mg base 5 "read_rule" ["text"] (gY K dN):=by
 obtain⟨C_NoRule,m_NoRule,t_NoRule,z_NoRule⟩:=M.XX.c_NoRule
 delta dN
 refine gi (g:=fG) M.e_read_rule Sq rfl rfl (by decide) fun f cdv A outer s H E hr=>?_
 delta fG
 exact(ak (cy (cf (bZ (ie .str (by rfl) (by exact M.B.isinstance) (aa 0) (by rfl) (by exact M.B.str) PyProof.Rows.boot_str)))
 (ar eN)
 aX)
 (ak (aO 1 Sq.nd (rZ 0 bg))
 (ak (cy (we bg (aa 1))
 (ar eN)
 aX)
 (ar (aJ (xo (j9 M) (ah (aa 1) aq)))))))
theorem o9(M:Md K mg):OwnR P w K mg base 5 "read_rule" ["text"] (qC K a7):=by
 obtain⟨C_NoRule,m_NoRule,t_NoRule,z_NoRule⟩:=M.XX.c_NoRule
 delta a7
 refine oh (mk:=true) (al:=true) (r:=gG) M.e_read_rule Sq rfl rfl (by decide) fun f cdv A outer s H E hr=>?_
 delta gG
 exact(pP (bn (pO (cf (bZ (ie .str (by rfl) (by exact M.B.isinstance) (aa 0) (by rfl) (by exact M.B.str) PyProof.Rows.boot_str))) (bn (g5 (by rfl) (by rfl) z_NoRule))))
 (io (cy (cf (bZ (ie .str (by rfl) (by exact M.B.isinstance) (aa 0) (by rfl) (by exact M.B.str) PyProof.Rows.boot_str)))
 (ar eN)
 aX)
 (io (aO 1 Sq.nd (rZ 0 bg))
 (pP (bn (pO (we bg (aa 1)) (bn (g5 (by rfl) (by rfl) z_NoRule))))
 (io (cy (we bg (aa 1))
 (ar eN)
 aX)
 (bn (uN (jz M) (hr.mono (by decide)) (by rfl) (ah (aa 1) aq))))))))
theorem Sr:FnScope ["_law_script","_law_k"] ["_law_script","_law_k"] (ai oI):=by and_intros
theorem yS(M:Md K mg):Own P w K mg base 1 "_law_at" ["_law_script","_law_k"] (gY K du):=by
 delta du
 refine gi (g:=lG) M.e_law_at Sr rfl rfl (by decide) fun f cdv A outer s H E hr=>?_
 delta lG
 exact(ak (cy (pH .lt (aa 1) (iZ (by rfl) (by exact M.B.len) (ah (aa 0) aq)))
 (ar (aJ (kZ (aa 0) (aa 1))))
 aX)
 (ar (aJ au)))
theorem Ss:FnScope ["_law_cell","_law_many","_law_letters","_law_step"] ["_law_cell","_law_many"] (ai jw):=by and_intros
theorem iF(M:Md K mg):Own P w K mg base 1 "_law_nails" ["_law_cell","_law_many"] (gY K bA):=by
 delta bA
 refine gi (g:=gH) M.e_law_nails Ss rfl rfl (by decide) fun f cdv A outer s H E hr=>?_
 refine tX 1 [1,3,5,7,9,11,15,17,19,21,23,25] rfl rfl fun es hes=>?_
 delta gH
 exact(ak (aO 2 Ss.nd bg)
 (ak (aO 3 Ss.nd (kZ (tV (wc hes)) (cH (cw (aa 0) au) au)))
 (ar (aJ (gj (N:=["_law_k","_law_letters","_law_cell","_law_step"]) (js:=[none,some 2,some 0,some 3]) g0 (by rfl) (xL (by rfl) (by exact M.B.range) (ah (aa 1) aq)) (fun _ _ _ _=>(by delta dJ;exact(bN 0 (show(["_law_k","_law_letters","_law_cell","_law_step"]:List Str).Nodup by decide+kernel)))) (fun _ _ _ _=>(by delta cW;exact(kZ (aa 1) (cH (bO (aa 2) (Ad (aa 0) (aa 3))) au)))))))))
theorem Su:FnScope ["_law_e","_law_some"] ["_law_e"] (ai jx):=by and_intros
theorem qK(M:Md K mg):OwnH P w K mg base 1 "_law_kinds" ["_law_e"] (gY K iy):=by
 obtain⟨C_NoCord,m_NoCord,t_NoCord⟩:=M.XX.c_NoCord
 obtain⟨C_NoNails,m_NoNails,t_NoNails,z_NoNails⟩:=M.XX.c_NoNails
 obtain⟨C_NoRule,m_NoRule,t_NoRule,z_NoRule⟩:=M.XX.c_NoRule
 obtain⟨C_NoText,m_NoText,t_NoText⟩:=M.XX.c_NoText
 obtain⟨C_NoMove,m_NoMove,t_NoMove⟩:=M.XX.c_NoMove
 obtain⟨C_NoLine,m_NoLine,t_NoLine⟩:=M.XX.c_NoLine
 obtain⟨C_NoName,m_NoName,t_NoName⟩:=M.XX.c_NoName
 obtain⟨C_NoNumber,m_NoNumber,t_NoNumber⟩:=M.XX.c_NoNumber
 obtain⟨C_TooMany,m_TooMany,t_TooMany,z_TooMany⟩:=M.XX.c_TooMany
 obtain⟨C_TooLong,m_TooLong,t_TooLong⟩:=M.XX.c_TooLong
 delta iy
 refine IQ (g:=ju) M.e_law_kinds Su rfl rfl (by decide) fun f cdv A outer s H E hr=>?_
 refine BodyOk.of ?_
 refine jY [0] (DL.cons (fj (by rfl) (by exact M.B.isinstance) (aa 0) (by rfl) (by exact m_NoCord) t_NoCord) rfl (DL.cons (fj (by rfl) (by exact M.B.isinstance) (aa 0) (by rfl) (by exact m_NoNails) t_NoNails) rfl (DL.cons (fj (by rfl) (by exact M.B.isinstance) (aa 0) (by rfl) (by exact m_NoRule) t_NoRule) rfl (DL.cons (fj (by rfl) (by exact M.B.isinstance) (aa 0) (by rfl) (by exact m_NoText) t_NoText) rfl DL.nil)))) fun e0 hd0=>?_
 refine jY [1,1] (DL.cons (fj (by rfl) (by exact M.B.isinstance) (aa 0) (by rfl) (by exact m_NoMove) t_NoMove) rfl (DL.cons (fj (by rfl) (by exact M.B.isinstance) (aa 0) (by rfl) (by exact m_NoLine) t_NoLine) rfl (DL.cons (fj (by rfl) (by exact M.B.isinstance) (aa 0) (by rfl) (by exact m_NoName) t_NoName) rfl (DL.cons (fj (by rfl) (by exact M.B.isinstance) (aa 0) (by rfl) (by exact m_NoNumber) t_NoNumber) rfl DL.nil)))) fun e1 o_=>?_
 refine jY [2,1] (DL.cons (fj (by rfl) (by exact M.B.isinstance) (aa 0) (by rfl) (by exact m_TooMany) t_TooMany) rfl (DL.cons (fj (by rfl) (by exact M.B.isinstance) (aa 0) (by rfl) (by exact m_TooLong) t_TooLong) rfl DL.nil)) fun e2 q9=>?_
 refine⟨?_⟩
 delta ju
 exact(ak (aO 1 Su.nd (cS hd0))
 (ak (aO 1 Su.nd (bO (aa 1) (cS o_)))
 (ar (aJ (bO (aa 1) (cS q9))))))
theorem Sv:FnScope ["_law_deed","_law_due","_law_e"] ["_law_deed","_law_due"] (ai gR):=by and_intros
theorem bQ(M:Md K mg):OwnF P w K mg base 6 "_law_refused" ["NoNails","NoRule","TooMany"] aC:=by
 obtain⟨C_HangError,m_HangError,e_HangError⟩:=M.XX.e_HangError
 obtain⟨v_ValueError,t_ValueError⟩:=M.XX.v_ValueError
 delta aC
 refine IW (hs:=gN) M.e_law_refused Sv rfl rfl (by exact m_HangError) e_HangError fun f cdv A outer s H hr ea oe C ex hx=>?_
 delta gN
 exact(ar (aJ (nN (CT (by rfl) (by exact M.B.isinstance) (aa 2) (by rfl) (by exact v_ValueError) PyProof.Rows.Boot.«ValueError» t_ValueError) (qu (py (Room.mark hr _).units (CU (qK M) ((Room.mark hr _).mono (by decide)) (by rfl) (ah (aa 2) aq)) (yO (N:=["_law_k","_law_due"]) (js:=[none,some 1]) g0 (De hx) (uX (by rfl) (by exact M.B.range) (ah au aq)) (fun _ _ _ _=>(by delta g_;exact(bN 0 (show(["_law_k","_law_due"]:List Str).Nodup by decide+kernel)))) (fun _ _ _ _=>(by delta hG;exact(py (Room.mark hr _).units (aa 1) (aa 0))))))))))
theorem Sw:FnScope ["_law_cell","_law_some"] ["_law_cell"] (ai kI):=by and_intros
theorem mO(M:Md K mg):Own P w K mg base 1 "_law_sign" ["_law_cell"] (gY K c_):=by
 delta c_
 refine gi (g:=iz) M.e_law_sign Sw rfl rfl (by decide) fun f cdv A outer s H E hr=>?_
 delta iz
 exact(ak (aO 1 Sw.nd bg)
 (ar (aJ (kZ (aa 1) (cH (aa 0) (iZ (by rfl) (by exact M.B.len) (ah (aa 1) aq)))))))
theorem Sy:FnScope ["_law_cell","_law_text","_law_at_here","_law_way"] ["_law_cell"] (ai gS):=by and_intros
theorem oN(M:Md K mg):Own P w K mg base 2 "_law_no_rule" ["_law_cell"] (gY K aM):=by
 delta aM
 refine gi (g:=cO) M.e_law_no_rule Sy rfl rfl (by decide) fun f cdv A outer s H E hr=>?_
 refine BodyOk.of ?_
 refine wA [5,0] (fun _=>(DL.cons tS rfl (DL.cons au rfl (DL.cons eK rfl (DL.cons (cS (DL.cons bg rfl (DL.cons bg rfl DL.nil))) rfl (DL.cons (Bo (DL.cons bg rfl DL.nil)) rfl (DL.cons D5 rfl DL.nil))))))) fun e0 hd0=>?_
 refine⟨?_⟩
 delta cO
 exact(ak (aO 1 Sy.nd (kZ (cS (DL.cons bg rfl (DL.cons bg rfl (DL.cons bg rfl (DL.cons bg rfl DL.nil))))) (cH (cw (aa 0) au) au)))
 (ak (aO 2 Sy.nd (cH (cw (aa 0) au) (bO (iZ (by rfl) (by exact M.B.len) (ah (aa 1) aq)) au)))
 (ak (aO 3 Sy.nd (cH (aa 0) au))
 (ak (cy (pH .lt (aa 3) au)
 (ar (aJ (bO (bO (gk (aa 1) fV (dM (aa 2))) (xo (mO M) (ah (cw (aa 0) au) aq))) (gk (aa 1) (dM (aa 2)) fV))))
 aX)
 (ak (cy (pH .lt (aa 3) au)
 (ar (aJ (kZ (tV (AH (aa 1) (AI (bO (aa 1) bg) (AJ (CL (CM 1) bg) (kY bg (kY bg (kY bg tU))))))) (cH (cw (aa 0) au) au))))
 aX)
 (ar (aJ (kZ (cS (hd0 _)) (cH (cw (aa 0) au) au)))))))))
theorem Sz:FnScope ["_law_cell"] ["_law_cell"] (ai gz):=by and_intros
theorem mX(M:Md K mg):Own P w K mg base 2 "_law_no_nails" ["_law_cell"] (gY K aR):=by
 delta aR
 refine gi (g:=cX) M.e_law_no_nails Sz rfl rfl (by decide) fun f cdv A outer s H E hr=>?_
 refine BodyOk.of ?_
 refine wA [1,0] (fun _=>(DL.cons tS rfl (DL.cons au rfl (DL.cons eK rfl (DL.cons (cS (DL.cons bg rfl DL.nil)) rfl (DL.cons (Bo (DL.cons bg rfl DL.nil)) rfl (DL.cons D5 rfl (DL.cons eK rfl DL.nil)))))))) fun e0 hd0=>?_
 refine⟨?_⟩
 delta cX
 exact(ak (cy (pH .lt (cH (aa 0) au) au)
 (ar (aJ (bO (bO (gk bg fV (dM (cH (cw (aa 0) au) au))) (xo (mO M) (ah (cw (aa 0) au) aq))) (gk bg fV (dM (cH (cw (aa 0) au) au))))))
 aX)
 (ar (aJ (kZ (cS (hd0 _)) (cH (cw (aa 0) au) au)))))
theorem R0:FnScope ["_law_cell","_law_many","_law_rest"] ["_law_cell","_law_many"] (ai fR):=by and_intros
theorem mh(M:Md K mg):Own P w K mg base 1 "_law_no_number" ["_law_cell","_law_many"] (gY K aI):=by
 delta aI
 refine gi (g:=bU) M.e_law_no_number R0 rfl rfl (by decide) fun f cdv A outer s H E hr=>?_
 refine BodyOk.of ?_
 refine jY [3,0] (DL.cons eK rfl (DL.cons tS rfl (DL.cons bg rfl (DL.cons au rfl (DL.cons (bO (aa 1) au) rfl (DL.cons (cS (DL.cons au rfl DL.nil)) rfl (DL.cons (Fe au) rfl DL.nil))))))) fun e0 hd0=>?_
 refine⟨?_⟩
 delta bU
 exact(ak (aO 2 R0.nd (cw (aa 0) au))
 (ak (cy (wa hr.units (cH (aa 0) au) au)
 (ar (aJ (bO (bO (aa 1) au) (cH (aa 2) (Ae au au)))))
 aX)
 (ak (cy (wa hr.units (cH (aa 0) au) au)
 (ar (aJ (Fb au (cH (aa 2) (Ae au au)))))
 aX)
 (ar (aJ (kZ (cS hd0) (cH (aa 2) au)))))))
theorem R3:FnScope ["_law_cell","_law_wide","_law_at_here","_law_one","_law_two"] ["_law_cell"] (ai bS):=by and_intros
theorem kM(M:Md K mg):Own P w K mg base 8 "_law_two_refused" ["_law_cell"] (gY K bL):=by
 obtain⟨c,T,D⟩:=M.e_law_two_refused
 delta bL
 refine FV (g:=cG) D R3 rfl rfl (by decide) fun f A outer s H E hr=>?_
 refine BodyOk.of ?_
 refine jY [3] (DL.cons (ig (lT (by rfl) (by exact M.B.sorted) (gk (aa 1) (dM (aa 2)) (dM (bO au (cH (cw (aa 0) au) au)))))) rfl DL.nil) fun e0 hd0=>?_
 refine jY [6] (DL.cons (ig (lT (by rfl) (by exact M.B.sorted) (bO (gk (aa 1) fV (dM (aa 2))) (gk (aa 1) (dM (aa 2)) (dM au))))) rfl DL.nil) fun e1 o_=>?_
 refine⟨?_⟩
 delta cG
 exact(ak (aO 1 R3.nd (xo (iF M) (ah (aa 0) (ah au aq))))
 (ak (aO 2 R3.nd (bO au (cH (cw (aa 0) au) au)))
 (ak (aO 3 R3.nd (lT (by rfl) (by exact M.B.sorted) (gk (aa 1) fV (dM (aa 2)))))
 (ak (aO 4 R3.nd (cS hd0))
 (ak (cy (cf (bZ (jg (N:=["_law_one","_law_two"]) (js:=[3,4]) (bQ M) rfl D.tp D.hd (hr.mono (by decide)) (by rfl) (oJ M) (by decide) gD (fun _ _ _ _ _ _=>(ah (aa 0) (ah (aa 1) aq))))))
 (ar (aJ eK))
 aX)
 (ak (cy (cf (bZ (jg (N:=["_law_two","_law_one"]) (js:=[4,3]) (bQ M) rfl D.tp D.hd (hr.mono (by decide)) (by rfl) (mU M) (by decide) gD (fun _ _ _ _ _ _=>(ah (aa 0) (ah (aa 1) aq))))))
 (ar (aJ eK))
 aX)
 (ak (aO 4 R3.nd (cS o_))
 (ar (aJ (nN (py hr.units (xo (o8 M) (ah (aa 3) (ah (aa 4) aq))) (aa 4)) (qu (py hr.units (xo (oK M) (ah (aa 3) (ah (aa 4) aq))) (aa 3)))))))))))))
theorem R4:FnScope ["_law_cell","_law_bad","_law_wide","_law_some","_law_odd","_law_number","_law_singles"] ["_law_cell"] (ai a8):=by and_intros
theorem hO(M:Md K mg):Own P w K mg base 8 "_law_at_least_refused" ["_law_cell"] (gY K aZ):=by
 obtain⟨c,T,D⟩:=M.e_law_at_least_refused
 delta aZ
 refine FV (g:=bB) D R4 rfl rfl (by decide) fun f A outer s H E hr=>?_
 delta bB
 exact(ak (aO 1 R4.nd (xo (mX M) (ah (aa 0) aq)))
 (ak (aO 2 R4.nd (ig (xo (iF M) (ah (aa 0) (ah (bO au (cH (aa 0) au)) aq)))))
 (ak (aO 3 R4.nd (ig (xo (iF M) (ah (aa 0) (ah (cH (cw (aa 0) au) au) aq)))))
 (ak (aO 4 R4.nd (xo (mh M) (ah (cw (aa 0) au) (ah (iZ (by rfl) (by exact M.B.len) (ah (aa 3) aq)) aq))))
 (ak (i8 PassesOwn.never (by rfl) (de (cS (DL.cons au rfl (DL.cons (aa 4) rfl DL.nil)))) (by delta a_;exact(bN 5 R4.nd))
 (by delta ba;exact(ak (cy (cf (bZ (jg (N:=["_law_bad","_law_number"]) (js:=[1,5]) (bQ M) rfl D.tp D.hd (hr.mono (by decide)) (by rfl) (iE M) (by decide) gD (fun _ _ _ _ _ _=>(ah (aa 0) (ah (aa 1) aq))))))
 (ar (aJ eK))
 aX)
 (ar (cy (cf (bZ (jg (N:=["_law_wide","_law_number"]) (js:=[2,5]) (bQ M) rfl D.tp D.hd (hr.mono (by decide)) (by rfl) (iE M) (by decide) gD (fun _ _ _ _ _ _=>(ah (aa 0) (ah (aa 1) aq))))))
 (ar (aJ eK))
 aX)))))
 (ak (cy (cf (bZ (jg (N:=["_law_some","_law_odd"]) (js:=[3,4]) (bQ M) rfl D.tp D.hd (hr.mono (by decide)) (by rfl) (iE M) (by decide) gD (fun _ _ _ _ _ _=>(ah (aa 0) (ah (aa 1) aq))))))
 (ar (aJ eK))
 aX)
 (ak (cy (cf (bZ (jg (N:=["_law_bad"]) (js:=[1]) (bQ M) rfl D.tp D.hd (hr.mono (by decide)) (by rfl) (uZ M) (by decide) gD (fun _ _ _ _ _ _=>(ah (cS (DL.cons bg rfl (DL.cons bg rfl DL.nil))) (ah (aa 0) aq))))))
 (ar (aJ eK))
 aX)
 (ak (aO 6 R4.nd (n6 rfl (by rfl) (by exact M.B.sorted) (aa 2)))
 (ak (cy (cf (bZ (jg (N:=["_law_singles"]) (js:=[6]) (bQ M) rfl D.tp D.hd (hr.mono (by decide)) (by rfl) (mV M) (by decide) gD (fun _ _ _ _ _ _=>(ah (aa 0) aq)))))
 (ar (aJ eK))
 aX)
 (ar (aJ (py hr.units (xo (oM M) (ah (n6 rfl (by rfl) (by exact M.B.sorted) (gk (aa 2) fV (dM au))) aq)) (cS (DL.cons (ig (n6 rfl (by rfl) (by exact M.B.sorted) (gk (aa 2) fV (dM au)))) rfl DL.nil))))))))))))))
theorem R5:FnScope ["_law_script","_law_cell","_law_bad"] ["_law_script"] (ai lH):=by and_intros
theorem F4{f0 c:Addr}  (D:FunT K "law" lH f0 fd c T) (M:Md K mg):FnOk P w K mg base nz 9 f0 fd ["_law_script"] (gY K kC):=by
 delta kC
 refine JJ (g:=sN) D R5 rfl rfl (by decide) fun A outer s H E hr=>?_
 delta sN
 exact(ak (i8 PassesOwn.never (by rfl) (de (bO (gk (aa 0) fV (dM au)) (cS (DL.cons (bO (xo (yS M) (ah (aa 0) (ah au aq))) au) rfl DL.nil)))) (by delta hJ;exact(bN 1 R5.nd))
 (by delta hM;exact(ak (aO 2 R5.nd (xo (oN M) (ah (aa 1) aq)))
 (ak (cy (cf (bZ (jg (N:=["_law_bad"]) (js:=[2]) (bQ M) rfl D.tp D.hd (hr.mono (by decide)) (by rfl) (o9 M) (by decide) gD (fun _ _ _ _ _ _=>(ah (aa 0) aq)))))
 (ar (aJ eK))
 aX)
 (ak (cy (G1 (D1 (cf (bZ (xo (hO M) (ah (cw (aa 1) au) aq)))) (Ai (cf (bZ (xo (kM M) (ah (cw (aa 1) au) aq)))))))
 (ar (aJ eK))
 aX)
 (ar (cy (G0 hr.units (xo (qJ M) (ah bg aq)) (cS (DL.cons bg rfl (DL.cons bg rfl DL.nil))))
 (ar (aJ eK))
 aX)))))))
 (ar (aJ eK)))
end
end Nhk46
namespace Nhk46
open PySem L2 Nh PL
theorem Jn{a b:Prop}(x:a)(y:b):a∧b:=⟨x,y⟩
def IZ:=Jn @gB.eq_1 <|Jn @xM.eq_1 <|Jn @cI.eq_1 <|Jn @fU.eq_1 <|Jn @fU.eq_2 <|Jn @fU.eq_3 <|Jn @fU.eq_4 <|Jn @fU.eq_5 <|Jn @dP.eq_1 <|Jn @dP.eq_2 <|Jn @dP.eq_3 <|Jn @dP.eq_4 <|Jn @dP.eq_5 <|Jn @dP.eq_6 <|Jn @dP.eq_7 <| @a9.eq_1
def I_:=Jn @bh.eq_1 <|Jn @gh.eq_1 <|Jn @bc.eq_1 <|Jn @cg.eq_1 <|Jn @aP.eq_1 <|Jn @PL.settle.eq_1 <|Jn @PL.settle.eq_2 <|Jn @PL.settle.eq_3 <|Jn @Sl.isAl.eq_1 <|Jn @Sl.isAl.eq_2 <|Jn @Sl.isAl.eq_3 <|Jn @Sl.isBr.eq_1 <|Jn @Sl.isBr.eq_2 <|Jn @frz.eq_1 <|Jn @frz.eq_2 <| @frz.eq_3
def Ja:=Jn @frz.eq_4 <|Jn @frz.eq_5 <|Jn @frz.eq_6 <|Jn @ae.eq_1 <|Jn @pC.eq_1 <|Jn @ao.eq_1 <|Jn @bI.eq_1 <|Jn @GY.eq_1 <|Jn @tT.eq_1 <|Jn @di.eq_1 <|Jn @eM.eq_1 <|Jn @Fa.eq_1 <|Jn @oW.eq_1 <|Jn @GZ.eq_1 <|Jn @zE.eq_1 <| @iR.eq_1
def Jb:=Jn @Fc.eq_1 <|Jn @Fc.eq_2 <|Jn @Fd.eq_1 <|Jn @Fd.eq_2 <|Jn @kR.eq_1 <|Jn @Aa.eq_1 <|Jn @Aa.eq_2 <|Jn @look.eq_1 <|Jn @look.eq_2 <|Jn @fT.eq_1 <|Jn @fT.eq_2 <|Jn @Sl.val.eq_1 <|Jn @Sl.val.eq_2 <|Jn @Sl.val.eq_3 <|Jn @Sl.val.eq_4 <| @Sl.val.eq_5
def Jc:=Jn @pw.eq_1 <|Jn @pw.eq_2 <|Jn @Cp.eq_1 <|Jn @Cp.eq_2 <|Jn @Cp.eq_3 <|Jn @iN.eq_1 <|Jn @bM.eq_1 <|Jn @iX.eq_1 <|Jn @iX.eq_2 <|Jn @iX.eq_3 <|Jn @iX.eq_4 <|Jn @iX.eq_5 <|Jn @iX.eq_6 <|Jn @iX.eq_7 <|Jn @qr.eq_1 <| @aV.eq_1
def Jd:=Jn @mE.eq_1 <|Jn @am.eq_1 <|Jn @af.eq_1 <|Jn @cQ.eq_1 <|Jn @aw.eq_1 <|Jn @CA.eq_1 <|Jn @cR.eq_1 <|Jn @j5.eq_1 <|Jn @j6.eq_1 <|Jn @j6.eq_2 <|Jn @j6.eq_3 <|Jn @j6.eq_4 <|Jn @i0.eq_1 <|Jn @i0.eq_2 <|Jn @Ia.eq_1 <| @Ia.eq_2
def Je:=Jn @Ia.eq_3 <|Jn @Ia.eq_4 <|Jn @Ia.eq_5 <|Jn @Ia.eq_6 <|Jn @Ia.eq_7 <|Jn @Ty.is.eq_1 <|Jn @Ty.is.eq_2 <|Jn @Ty.is.eq_3 <|Jn @Ty.is.eq_4 <|Jn @Ty.is.eq_5 <|Jn @Ty.is.eq_6 <|Jn @Ty.is.eq_7 <|Jn @Ty.is.eq_8 <|Jn @Ty.is.eq_9 <|Jn @eF.eq_1 <| @b7.eq_1
def Jf:=Jn @iW.eq_1 <|Jn @aj.eq_1 <|Jn @k8.eq_1 <|Jn @bH.eq_1 <|Jn @nO.eq_1 <|Jn @i7.eq_1 <|Jn @List.length_cons.{0} <|Jn @List.length_nil.{0} <|Jn @List.map_cons.{0,0} <|Jn @List.map_nil.{0,0} <|Jn @List.replicate.eq_1.{0} <|Jn @List.replicate.eq_2.{0} <|Jn @List.cons_append.{0} <|Jn @List.nil_append.{0} <|Jn @List.getElem?_cons_zero.{0} <| @List.getElem?_cons_succ.{0}
def Jg:=Jn @List.set_cons_zero.{0} <|Jn @List.set_cons_succ.{0} <|Jn @Option.bind_some.{0,0} <|Jn @Option.map_some.{0,0} <|Jn @Option.map_none.{0,0} <|Jn @Option.any_some.{0} <|Jn @Nat.sub_self <|Jn @Nat.zero_add <|Jn @if_true.{1} <|Jn @if_false.{1} <|Jn @Bool.false_and <|Jn @Bool.true_and <|Jn @Bool.and_true <|Jn @Bool.true_or <|Jn @Bool.or_true <| @Bool.or_false
def Jh:=Jn @Bool.not_true <|Jn @Bool.not_false <|Jn @Bool.false_eq_true <|Jn @decide_true <|Jn @decide_false <|Jn @rK <|Jn @fA.eq_1 <|Jn @fA.eq_2 <|Jn @fA.eq_3 <|Jn @fA.eq_4 <|Jn @fA.eq_5 <|Jn @frzAll.eq_1 <|Jn @b_.eq_1 <|Jn @gK.eq_1 <|Jn @gK.eq_2 <| @gK.eq_3
def Hv:=Jn @Cm.i.eq_1 <|Jn @Cm.i.eq_2 <|Jn @Cm.i.eq_3 <|Jn @Cm.i.eq_4 <|Jn @Cm.s.eq_1 <|Jn @Cm.s.eq_2 <|Jn @Cm.s.eq_3 <|Jn @Cm.s.eq_4 <|Jn @fW.eq_1 <|Jn @tY.eq_1 <|Jn @BW.eq_1 <|Jn @G_.eq_1 <|Jn @G_.eq_2 <|Jn @G_.eq_3 <|Jn @G_.eq_4 <| @G_.eq_5
def Hw:=Jn @G_.eq_6 <|Jn @fB.eq_1 <|Jn @jV <|Jn @Int.cast_ofNat_Int <| @fX.eq_1
def Hx:=Jn IZ <|Jn I_ <|Jn Ja <|Jn Jb <|Jn Jc <|Jn Jd <|Jn Je <|Jn Jf <|Jn Jg <|Jn Jh <|Jn Hv <|Hw
local macro_rules | `(tactic|simp! [$xs,*])=>`(tactic|simp only[Hx,Nat.reduceAdd,Nat.reduceSub,Nat.reduceLT,Nat.reduceLeDiff,List.map_append,$xs,*])
local macro_rules | `(tactic|dsimp! [$xs,*])=>`(tactic|simp only[Hx,Nat.reduceAdd,Nat.reduceSub,Nat.reduceLT,Nat.reduceLeDiff,List.map_append,Int.reduceLT,Int.reduceLE,Int.reduceNeg,Int.reduceToNat,Int.reducePow,and_self,$xs,*])
theorem aK{f g:cZ}(h:f E=some (E1,.nx)):a9 f g E=g E1:=by
 unfold a9
 rw[h]
 rfl
theorem jA{c:iT}{a b:cZ}{r:Option (List Sl×Fl)}(h:c E=some (false,E1))(k:b E1=r):cg c a b E=r:=by
 unfold cg
 rw[h,←k]
 rfl
theorem qL{c:iT}{a b:cZ}{r:Option (List Sl×Fl)}(h:c E=some (true,E1))(k:a E1=r):cg c a b E=r:=by
 unfold cg
 rw[h,←k]
 rfl
theorem qM{elt:bj}{r:PyData}{rs:List PyData}(t:tg d E=some E1)(el:elt E1=some (.sh r,E1))(h:dF tg dl elt ds E1=some rs):dF tg dl elt (d::ds) E=some (r::rs):=by
 rw[dF,t,Option.bind_some]
 simp only[dl,Z0,el,frz,h,Z1,if_true]
def b0(a:Nat):PyData:=.str ⟨#[a]⟩
theorem jB:∀w:List Nat,bR (w.map b0)=true
 |[]=>rfl
 |a::w=>by simp[bR,dP,jB w,b0]
theorem Bt(cell step k:Int)(m:kX k step=true):cW [.sh (.int k),.sh (.str "abcdefghijklmnopqrstuvwxyz"),.sh (.int cell),.sh (.int step)]=some (.sh (b0 (97+((cell+k*step) % 26).toNat)),[.sh (.int k),.sh (.str "abcdefghijklmnopqrstuvwxyz"),.sh (.int cell),.sh (.int step)]):=by
 simp! [cW,Int.reduceLT,m,IN,FC,b0]
theorem yT(cell many step i:Int) (n:Nat) (ws:List PyData) (dd:eW 26=true) (hi:cell / 26 % 12=i) (hs:atI [PyData.int 1,.int 3,.int 5,.int 7,.int 9,.int 11,.int 15,.int 17,.int 19,.int 21,.int 23,.int 25] i=some (.int step)) (o1: -1000000≤many) (o2:many≤1000000) (hn:many.toNat=n) (e:dF dJ dl cW (oX 0 n) [.no,.sh (.str "abcdefghijklmnopqrstuvwxyz"),.sh (.int cell),.sh (.int step)]=some ws) (fl:bR ws=true) (ll:ws.length≤1000000):bA [.int cell,.int many]=some (.ow ws):=by
 simp only[bA,gB,Z4,Z5,Nat.reduceAdd,xM,gH,a9,aP,pC,cI,gI,List.map_nil,Nat.reduceSub,List.replicate,Z9,Z8,PL.settle,frz,frzAll,Z0,Nat.reduceLT,Z7,Z6,ao,cR,Aq,Nat.reduceLeDiff,Sl.isBr,ae,di,kR,look,Sl.val,Aa,eM,zE,pw,Cp,bc,c7,nO,af,am,Z1,i9,wb,Z2,dd,Int.reduceLT,hi,hs,Z3,fT,o1,o2,and_self,hn,e,fl,ll,fA,fU,hW]
theorem Bu:∀i,i < 12→∃v:Int,[PyData.int 1,.int 3,.int 5,.int 7,.int 9,.int 11,.int 15,.int 17,.int 19,.int 21,.int 23,.int 25][i]? =some (.int v)∧0≤v∧v≤100∧∀d:Nat,1≤d→d < 26→((d:Int)*v) % 26≠0
 | 0,_=>⟨1,rfl,by decide,by decide,by omega⟩
 | 1,_=>⟨3,rfl,by decide,by decide,by omega⟩
 | 2,_=>⟨5,rfl,by decide,by decide,by omega⟩
 | 3,_=>⟨7,rfl,by decide,by decide,by omega⟩
 | 4,_=>⟨9,rfl,by decide,by decide,by omega⟩
 | 5,_=>⟨11,rfl,by decide,by decide,by omega⟩
 | 6,_=>⟨15,rfl,by decide,by decide,by omega⟩
 | 7,_=>⟨17,rfl,by decide,by decide,by omega⟩
 | 8,_=>⟨19,rfl,by decide,by decide,by omega⟩
 | 9,_=>⟨21,rfl,by decide,by decide,by omega⟩
 | 10,_=>⟨23,rfl,by decide,by decide,by omega⟩
 | 11,_=>⟨25,rfl,by decide,by decide,by omega⟩
def kN(cell step:Int)(k:Nat):Nat:=97+((cell+(k:Int)*step) % 26).toNat
theorem u_{cell step:Int}(hs:∀d:Nat,1≤d→d < 26→((d:Int)*step) % 26≠0)(h:j < k)(hk:k < 26):kN cell step j≠kN cell step k:=by
 intro e
 unfold kN at e
 have m0:=tJ (cell+(k:Int)*step) (show(26:Int)≠0 by decide)
 have n0:=tJ (cell+(j:Int)*step) (show(26:Int)≠0 by decide)
 have e2:(cell+(k:Int)*step) % 26=(cell+(j:Int)*step) % 26:=by omega
 have e3:=Int.emod_eq_emod_iff_emod_sub_eq_zero.mp e2
 apply hs (k - j) (by omega) (by omega)
 rw[←e3]
 congr 1
 rw[show((k - j:Nat):Int)=(k:Int) - j by omega,Int.sub_mul]
 omega
theorem pX(cell step:Int)(h1:0≤step)(h2:step≤100):∀(n lo:Nat) (x:Sl),dF dJ dl cW (oX lo n) [x,.sh (.str "abcdefghijklmnopqrstuvwxyz"),.sh (.int cell),.sh (.int step)]=some (((List.range' lo n).map (kN cell step)).map b0)
 | 0,lo,x=>rfl
 |n+1,lo,x=>by
  have e:=pX cell step h1 h2 n (lo+1) (.sh (.int lo))
  have s:=Bt cell step lo (wk (by omega) (by omega))
  have t:dJ (.int lo) [x,.sh (.str "abcdefghijklmnopqrstuvwxyz"),.sh (.int cell),.sh (.int step)]=some [.sh (.int lo),.sh (.str "abcdefghijklmnopqrstuvwxyz"),.sh (.int cell),.sh (.int step)]:=rfl
  rw[show((lo+1:Nat):Int)=(lo:Int)+1 by omega]at e
  rw[xP,List.range'_succ,gI,gI]
  exact qM t s e
def az(a:Nat):Prop:=97≤a∧a < 123
theorem fS{a:Nat}(h:az a):a∈List.range' 97 26:=List.mem_range'_1.mpr ⟨h.1,h.2⟩
theorem yU(cell step:Int)(k:Nat):az (kN cell step k):=by
 unfold kN az
 have m0:=tJ (cell+(k:Int)*step) (show(26:Int)≠0 by decide)
 have m1:=wS (cell+(k:Int)*step) (show(0:Int) < 26 by decide)
 generalize (cell+(k:Int)*step) % 26=z at m0 m1
 omega
theorem aE{c:List PyData→Option Sl}{g:lM}{r:Sl}(h:g E=some (ss,E1))(hl:fT E1 ss=some ds)(hc:c ds=some r):aj c g E=some (r,E1):=by
 unfold aj
 rw[h,Option.bind_some]
 show(fT E1 ss).bind _=_
 rw[hl,Option.bind_some,hc]
 rfl
theorem Bv{x:Int}{g:bj}(hf:g E=some (.sh (.int x),E))(h:f E=some (.sh (.int y),E))(ok:kX x y=true):ao tT false g f E=some (.sh (.int (x*y)),E):=by
 simp only[ao,tT,hf,h,Z0,look,Sl.val,ok,hW]
theorem jC{x:Int}{g:bj}(hf:g E=some (.sh (.int x),E))(h:f E=some (.sh (.int y),E)):ao bI false g f E=some (.sh (.int (x+y)),E):=by
 simp only[ao,bI,hf,h,Z0,look,Sl.val,hW]
theorem gU{i:Nat}(h:f E=some (.sh d,E1))(hi:i < E1.length):aP i f E=some (E1.set i (.sh d),.nx):=by
 unfold aP
 rw[h]
 simp only[Z0,PL.settle,hi,if_true]
theorem Hy{a b:iT}{r:Option (Bool×List Sl)}(h:a E=some (false,E1))(k:b E1=r):qr a b E=r:=by
 unfold qr
 rw[h,Option.bind_some]
 exact k
theorem yV(ns:List Int)(k:Nat):du [.list (ns.map .int),.int k]=some (.sh (.int (ns.getD k 0))):=by
 simp! [du,lG]
 by_cases h:k < ns.length
 ·simp[h,i_,dP,fA,fU]
 ·simp[h,List.getElem?_eq_none (Nat.le_of_not_lt h),dP,fA,fU]
theorem Dh(w:List Nat)(a:Nat):(Builtin.Str.occurrences ⟨w.toArray⟩ ⟨#[a]⟩ 0 (⟨w.toArray⟩:Str).length 1).isEmpty= !decide (a∈w):=by
 have h:=PySem.StrLaws.found_one ⟨w.toArray⟩ a
 rw[List.toList_toArray]at h
 rw[←h,Bool.not_not]
def eG(a:Nat):Str:=⟨#[a]⟩
theorem Bw{a b:Nat}(h:eG a=eG b):a=b:=by
 simp[eG]at h;exact h
theorem Di{a b:Nat}(h:a≤b):rf (eG a) (eG b)=true:=by
 have:[a]≤[b]:=by
  rcases Nat.lt_or_ge a b with k |k
  ·exact List.le_of_lt (List.Lex.rel k)
  ·rw[Nat.le_antisymm h k];exact List.le_refl _
 exact zz4 this
theorem Dj(ks:List Str)(x y:Str):y∈BX ks x↔y∈ks∨y=x:=by
 unfold BX
 split
 ·rename_i h
  exact⟨.inl,fun z=>z.elim id fun e=>e▸h⟩
 ·simp
theorem yW(h:ks.Nodup)(x:Str):(BX ks x).Nodup:=by
 unfold BX
 split
 ·exact h
 ·rename_i k
  rw[List.nodup_append]
  refine⟨h,by simp,fun a ha b hb=>?_⟩
  rw[Zac.mp hb]
  exact fun e=>k (e▸ha)
theorem qN:∀(ss ks:List Str),ks.Nodup→(ss.foldl BX ks).Nodup∧∀y,y∈ss.foldl BX ks↔y∈ks∨y∈ss
 |[],ks,h=>⟨h,fun y=>by simp⟩
 |s::ss,ks,h=>by
  obtain⟨a,b⟩:=qN ss (BX ks s) (yW h s)
  refine⟨a,fun y=>?_⟩
  rw[List.foldl_cons,b y,Dj,Zai,or_assoc]
theorem yX(ss:List Str):(j7 ss).Nodup:=(qN ss [] List.nodup_nil).1
theorem Dk(ss:List Str)(y:Str):y∈j7 ss↔y∈ss:=by
 rw[j7,(qN ss [] List.nodup_nil).2 y];simp
def av(w:List Nat):List Nat:=(List.range' 97 26).filter fun a=>decide (a∈w)
theorem inOrd_mem{w:List Nat}{a:Nat}:a∈av w↔a∈List.range' 97 26∧a∈w:=by simp[av]
theorem iG[DecidableEq α]:∀{l m:List α},l.Nodup→m.Nodup→(∀a,a∈l↔a∈m)→l.Perm m
 |[],m,_,_,h=>by
  have:m=[]:=by
   cases m with
   |nil=>rfl
   |cons b m=>exact absurd ((h b).mpr (by simp)) (by simp)
  rw[this]
 |a::l,m,hl,hm,h=>by
  have ha:a∈m:=(h a).mp (by simp)
  have hl':=List.nodup_cons.mp hl
  have p:=List.perm_cons_erase ha
  refine((iG hl'.2 (hm.erase a) fun b=>?_).cons a).trans p.symm
  rw[List.Nodup.mem_erase_iff hm,←h b,Zai]
  exact⟨fun k=>⟨fun e=>hl'.1 (e▸k),.inr k⟩,fun k=>k.2.resolve_left k.1⟩
theorem kO{w:List Nat}(h:w.Nodup):(w.map eG).Nodup:=by
 rw[List.Nodup,List.pairwise_map]
 exact h.imp fun k e=>k (Bw e)
theorem jD(w:List Nat):(av w).Nodup:=List.Nodup.sublist List.filter_sublist (List.nodup_range' ..)
theorem lI(w:List Nat):((av w).map eG).Pairwise fun a b=>rf a b=true:=by
 rw[List.pairwise_map]
 have h:(List.range' 97 26).Pairwise (· < ·):=List.pairwise_lt_range'
 exact(h.sublist List.filter_sublist).imp fun k=>Di (Nat.le_of_lt k)
theorem sP{w:List Nat}(hw:∀a∈w,a∈List.range' 97 26):fD (j7 (w.map eG))=(av w).map eG:=by
 refine(List.Perm.eq_of_pairwise (fun _ _ _ _ h k=>nR h k) (lI w) (List.pairwise_mergeSort jT lS _) ?_).symm
 refine List.Perm.trans ?_ (List.mergeSort_perm _ rf).symm
 refine iG (kO (jD w)) (yX _) fun y=>?_
 rw[Dk,Zaz,Zaz]
 constructor
 ·rintro⟨a,ha,rfl⟩
  exact⟨a,(inOrd_mem.mp ha).2,rfl⟩
 ·rintro⟨a,ha,rfl⟩
  exact⟨a,inOrd_mem.mpr ⟨hw a ha,ha⟩,rfl⟩
theorem Dl{w:List Nat}(hw:∀a∈w,a∈List.range' 97 26):(j7 (w.map eG)).length≤26:=by
 rw[←jU,sP hw,fw]
 refine lL (List.length_filter_le _ _) (by simp)
theorem Dm{a:Nat}(h:az a):decide ([a] < (Str.ofString "a").cps.toList)=false:=by
 have e:(Str.ofString "a").cps.toList=[97]:=by decide+kernel
 rw[e]
 refine zz3 fun k=>?_
 have:a < 97:=by
  cases k with
  |rel k=>exact k
  |cons k=>cases k
 exact absurd this (Nat.not_lt.mpr h.1)
theorem Do{a:Nat}(h:az a):decide ((Str.ofString "z").cps.toList < [a])=false:=by
 have e:(Str.ofString "z").cps.toList=[122]:=by decide+kernel
 rw[e]
 refine zz3 fun k=>?_
 have:122 < a:=by
  cases k with
  |rel k=>exact k
  |cons k=>cases k
 exact absurd this (Nat.not_lt.mpr (Nat.le_of_lt_succ h.2))
theorem kP{a:Nat}(h:az a):bJ [.str ⟨#[a]⟩]=some (.sh (.bool true)):=by
 have l:(⟨#[a]⟩:Str).length=1:=rfl
 have t:(#[a]:Array Nat).toList=[a]:=rfl
 have lo:=Dm h
 have hi:=Do h
 dsimp! [bJ,gc,l,t,lo,hi]
theorem pY(x0:Sl):∀(w:List Nat) (a:Sl),(∀y∈w,az y)→∃a',dk bF bG (w.map b0) [x0,a]=some ([x0,a'],.nx)
 |[],a,_=>⟨a,rfl⟩
 |y::w,a,h=>by
  have n:=kP (h y (jJ ..))
  have e:(bF (b0 y) [x0,a]).bind bG=some ([x0,.sh (b0 y)],.nx):=by
   simp! [bF,bG,b0,n]
  obtain⟨a',ih⟩:=pY x0 w (.sh (b0 y)) fun z hz=>h z (gW _ hz)
  refine⟨a',?_⟩
  rw[gI,dk,e]
  exact ih
theorem wB(w:List Nat):gJ ⟨w.toArray⟩=w.map b0:=by simp[gJ,b0]
theorem Bx(w:List Nat):fE ⟨w.toArray⟩=w.map eG:=by simp[fE,eG]
theorem sQ:∀(w:List Nat),j_ (w.map b0)=some (w.map eG)
 |[]=>rfl
 |a::w=>by simp only[gI,b0,j_];rw[sQ w];rfl
theorem vA(w:List Nat):eZ ((w.map eG).map PyData.str)=some (w.map eG):=by
 induction w with
 |nil=>rfl
 |cons a w ih=>simp only[gI,eZ,ih,Z1]
theorem mP:∀(w:List Nat),eZ (w.map b0)=some (w.map eG)
 |[]=>rfl
 |a::w=>by simp only[gI,b0,eZ];rw[mP w];rfl
theorem wC(w:List Nat):((w.map eG).map (·.length)).sum+(w.map eG).length*(Str.ofString "").length=w.length:=by
 have:(Str.ofString "").length=0:=rfl
 rw[this,Nat.mul_zero,Nat.add_zero]
 induction w with
 |nil=>rfl
 |cons a w ih=>simp only[gI,List.sum_cons,ih,Z4];show 1+_=_;omega
theorem sR:∀(w:List Nat),Txt.join "" (w.map eG)=⟨w.toArray⟩:=by
 intro w
 show Builtin.Str.glued "" _=_
 rw[StrLaws.glued_eq_join]
 induction w with
 |nil=>rfl
 |cons a w ih=>
  cases w with
  |nil=>rfl
  |cons b w=>
   have e:Str.join "" ((a::b::w).map eG)=(⟨#[a]⟩:Str)++""++Str.join "" ((b::w).map eG):=rfl
   rw[e,ih]
   show(⟨(#[a]++(Str.ofString "").cps)++(b::w).toArray⟩:Str)=_
   rw[show(Str.ofString "").cps=#[] by decide+kernel]
   simp
theorem j1(w:List Nat):(av w).length≤1000000:=lL (List.length_filter_le _ _) (by simp)
theorem hU{w:List Nat}(h:∀y∈w,az y)(hl:w.length≤3900):b9 [.str ⟨w.toArray⟩]=some (.sh (.str ⟨(av w).toArray⟩)):=by
 obtain⟨a,e⟩:=pY (.sh (.str ⟨w.toArray⟩)) w .no h
 have d:=sP fun y hy=>fS (h y hy)
 have d2:(w.map eG).length < 4000∧(j7 (w.map eG)).length < 64:=⟨by rw[fw];omega,zz8 (Dl fun y hy=>fS (h y hy)) (by decide)⟩
 have l:=wC (av w)
 have l2:=j1 w
 simp! [b9,lD,wB,e,nT,Bx,d2,and_self,d,rP,vA,l,l2,sR]
theorem yY:(Str.ofString "abcdefghijklmnopqrstuvwxyz")=(⟨(List.range' 97 26).toArray⟩:Str):=by decide+kernel
theorem F8(w:List Nat)(a:Nat):G_ (.str ⟨#[a]⟩) (.str ⟨w.toArray⟩)=some (decide (a∈w)):=by
 show some (!(Builtin.Str.occurrences ⟨w.toArray⟩ ⟨#[a]⟩ 0 (⟨w.toArray⟩:Str).length 1).isEmpty)=_
 rw[Dh,Bool.not_not]
theorem Hz{g:bj}{d1 d2:PyData}{b:Bool}(hf:f E=some (.sh d1,E))(hg:g E=some (.sh d2,E))(hd:G_ d1 d2=some b):iN (ao (BW false) false f g) E=some (b,E):=by
 simp only[iN,ao,BW,kR,hf,hg,hd,Z0,look,Sl.val,Z1,hW]
theorem Dp(w:List Nat)(n:Nat)(c:Nat)(hc:c=97+n)(p:Int)(hp:p=2 ^ n)(a:Sl):(eO (.str ⟨#[c]⟩) [.sh (.str ⟨w.toArray⟩),.sh (.int (NH.df w n)),.sh (.int p),a]).bind eP=some ([.sh (.str ⟨w.toArray⟩),.sh (.int (NH.df w (n+1))),.sh (.int (p*2)),.sh (.str ⟨#[c]⟩)],.nx):=by
 have i1:=F8 w c
 have ok:kX p 2=true:=wk (by decide) (by decide)
 have b:(NH.df w (n+1):Int)=if c∈w then (NH.df w n:Int)+p else (NH.df w n:Int):=by
  rw[NH.df,hc,hp]
  split
  ·push_cast;rfl
  ·simp
 generalize (NH.df w (n+1):Int)=B1 at b ⊢
 generalize (NH.df w n:Int)=B0 at b ⊢
 have tg:eO (.str ⟨#[c]⟩) [.sh (.str ⟨w.toArray⟩),.sh (.int B0),.sh (.int p),a]=some [.sh (.str ⟨w.toArray⟩),.sh (.int B0),.sh (.int p),.sh (.str ⟨#[c]⟩)]:=rfl
 have t1:iN (ao (BW false) false (ae 3) (ae 0)) [.sh (.str ⟨w.toArray⟩),.sh (.int B0),.sh (.int p),.sh (.str ⟨#[c]⟩)]=some (decide (c∈w),[.sh (.str ⟨w.toArray⟩),.sh (.int B0),.sh (.int p),.sh (.str ⟨#[c]⟩)]):=Hz rfl rfl i1
 have s2:∀x:Int,aP 2 (ao tT false (ae 2) (pC (.int 2))) [.sh (.str ⟨w.toArray⟩),.sh (.int x),.sh (.int p),.sh (.str ⟨#[c]⟩)]=some ([.sh (.str ⟨w.toArray⟩),.sh (.int x),.sh (.int (p*2)),.sh (.str ⟨#[c]⟩)],.nx):=fun x=>gU (Bv (g:=ae 2) (f:=pC (.int 2)) rfl rfl ok) (show 2 < 4 by decide)
 rw[tg,Option.bind_some,eP]
 by_cases h:c∈w
 ·rw[if_pos h]at b
  rw[zz4 h]at t1
  have s1:aP 1 (ao bI false (ae 1) (ae 2)) [.sh (.str ⟨w.toArray⟩),.sh (.int B0),.sh (.int p),.sh (.str ⟨#[c]⟩)]=some ([.sh (.str ⟨w.toArray⟩),.sh (.int B1),.sh (.int p),.sh (.str ⟨#[c]⟩)],.nx):=by
   rw[b]
   exact gU (jC (g:=ae 1) (f:=ae 2) rfl rfl) (show 1 < 4 by decide)
  rw[aK (qL t1 s1)]
  exact s2 B1
 ·rw[if_neg h]at b
  rw[zz3 h]at t1
  rw[aK (jA (b:=bh) t1 rfl),b]
  exact s2 B0
theorem wD(w:List Nat):∀(k n:Nat) (a:Sl),n+k=26→∃a' b',dk eO eP ((List.range' (97+n) k).map fun c=>.str ⟨#[c]⟩) [.sh (.str ⟨w.toArray⟩),.sh (.int (NH.df w n)),.sh (.int (2 ^ n)),a]=some ([.sh (.str ⟨w.toArray⟩),.sh (.int (NH.bV w)),b',a'],.nx)
 | 0,n,a,h=>⟨a,.sh (.int (2 ^ n)),by rw[show n=26 by omega];rfl⟩
 |k+1,n,a,h=>by
  have s:=Dp w n (97+n) rfl (2 ^ n) rfl a
  rw[(Int.pow_succ 2 n).symm]at s
  obtain⟨a',b',e⟩:=wD w k (n+1) (.sh (.str ⟨#[97+n]⟩)) (by omega)
  refine⟨a',b',?_⟩
  rw[List.range'_succ,gI,dk,s]
  exact e
theorem iH(w:List Nat):aQ [.str ⟨w.toArray⟩]=some (.sh (.int (NH.bV w))):=by
 obtain⟨a,b,e⟩:=wD w 26 0 .no rfl
 have z0:((NH.df w 0:Nat):Int)=0:=rfl
 have z1:(2:Int) ^ 0=1:=rfl
 rw[z0,z1,Nat.add_zero]at e
 have sg:gJ (⟨(List.range' 97 26).toArray⟩:Str)=(List.range' 97 26).map fun c=>.str ⟨#[c]⟩:=by simp[gJ]
 simp! [aQ,jZ,yY,sg,e]
theorem vB(a b:Nat):Builtin.bitAnd (a:Int) (b:Int)=((a &&& b:Nat):Int):=by
 simp[Builtin.bitAnd]
theorem By{g:bj}{x y:Nat}(hf:f E=some (.sh (.int x),E))(hg:g E=some (.sh (.int y),E)):ao tY false f g E=some (.sh (.int ((x &&& y:Nat):Int)),E):=by
 simp only[ao,tY,kR,Aa,hf,hg,Z0,look,Sl.val,Z1,vB,hW]
theorem D_{g:bj}{x:Int}(hf:f E=some (.sh (.int x),E))(hg:g E=some (.sh (.int y),E)):iN (ao oW false f g) E=some (decide (x=y),E):=by
 simp only[iN,ao,oW,kR,hf,hg,Z0,look,Sl.val,Z1,jV,hW]
def lJ(n:Nat):PyData:=.int n
theorem wE(x1:Sl)(b:Nat):∀(ps:List Nat) (a:Sl),∃E,dk bD be (ps.map lJ) [.sh (.int b),x1,a]=some (E,if ps.any (fun p=>decide (p &&& b=p))then .rt (.sh (.bool true))else .nx)
 |[],a=>⟨_,rfl⟩
 |p::ps,a=>by
  have t1:iN (ao oW false (ao tY false (ae 2) (ae 0)) (ae 2)) [.sh (.int b),x1,.sh (.int p)]=some (decide (((p &&& b:Nat):Int)=(p:Int)),[.sh (.int b),x1,.sh (.int p)]):=D_ (By (f:=ae 2) (g:=ae 0) (x:=p) (y:=b) rfl rfl) rfl
  have tg:bD (lJ p) [.sh (.int b),x1,a]=some [.sh (.int b),x1,.sh (.int p)]:=rfl
  by_cases h:p &&& b=p
  ·rw[zz4 (by rw[h])]at t1
   refine⟨[.sh (.int b),x1,.sh (.int p)],?_⟩
   have st:(bD (lJ p) [.sh (.int b),x1,a]).bind be=some ([.sh (.int b),x1,.sh (.int p)],.rt (.sh (.bool true))):=by
    rw[tg,Option.bind_some,be]
    exact qL t1 rfl
   rw[gI,dk,st,List.any_cons,zz4 h]
   rfl
  ·rw[zz3 (by omega)]at t1
   obtain⟨E,ih⟩:=wE x1 b ps (.sh (.int p))
   refine⟨E,?_⟩
   have st:(bD (lJ p) [.sh (.int b),x1,a]).bind be=some ([.sh (.int b),x1,.sh (.int p)],.nx):=by
    rw[tg,Option.bind_some,be]
    exact jA t1 rfl
   rw[gI,dk,st,List.any_cons,zz3 h,Bool.false_or]
   exact ih
theorem wF(b:Nat)(ps:List Nat):aG [.int b,.list (ps.map lJ)]=some (.sh (.bool (ps.any fun p=>decide (p &&& b=p)))):=by
 obtain⟨E,e⟩:=wE (.sh (.list (ps.map lJ))) b ps .no
 cases h:ps.any (fun p=>decide (p &&& b=p))with
 |true=>
  rw[h]at e
  simp only[if_true]at e
  simp! [aG,cU,e]
 |false=>
  rw[h]at e
  simp only[hW]at e
  simp! [aG,cU,e]
theorem sS(x1:Sl)(b:Nat):∀(ps:List Nat) (a:Sl),∃E,dk ci bT (ps.map lJ) [.sh (.int b),x1,a]=some (E,if ps.all (fun p=> !decide (p &&& b=0))then .nx else .rt (.sh (.bool false)))
 |[],a=>⟨_,rfl⟩
 |p::ps,a=>by
  have t1:iN (ao oW false (ao tY false (ae 2) (ae 0)) (pC (.int 0))) [.sh (.int b),x1,.sh (.int p)]=some (decide (((p &&& b:Nat):Int)=0),[.sh (.int b),x1,.sh (.int p)]):=D_ (By (f:=ae 2) (g:=ae 0) (x:=p) (y:=b) rfl rfl) rfl
  have tg:ci (lJ p) [.sh (.int b),x1,a]=some [.sh (.int b),x1,.sh (.int p)]:=rfl
  by_cases h:p &&& b=0
  ·rw[zz4 (by rw[h];rfl)]at t1
   refine⟨[.sh (.int b),x1,.sh (.int p)],?_⟩
   have st:(ci (lJ p) [.sh (.int b),x1,a]).bind bT=some ([.sh (.int b),x1,.sh (.int p)],.rt (.sh (.bool false))):=by
    rw[tg,Option.bind_some,bT]
    exact qL t1 rfl
   rw[gI,dk,st,List.all_cons,zz4 h]
   rfl
  ·rw[zz3 (by omega)]at t1
   obtain⟨E,ih⟩:=sS x1 b ps (.sh (.int p))
   refine⟨E,?_⟩
   have st:(ci (lJ p) [.sh (.int b),x1,a]).bind bT=some ([.sh (.int b),x1,.sh (.int p)],.nx):=by
    rw[tg,Option.bind_some,bT]
    exact jA t1 rfl
   rw[gI,dk,st,List.all_cons,zz3 h,Bool.not_false,Bool.true_and]
   exact ih
theorem Bz(b:Nat)(ps:List Nat):cK [.int b,.list (ps.map lJ)]=some (.sh (.bool (ps.all fun p=> !decide (p &&& b=0)))):=by
 obtain⟨E,e⟩:=sS (.sh (.list (ps.map lJ))) b ps .no
 cases h:ps.all (fun p=> !decide (p &&& b=0))with
 |true=>
  rw[h]at e
  simp only[if_true]at e
  simp! [cK,eQ,e]
 |false=>
  rw[h]at e
  simp only[hW]at e
  simp! [cK,eQ,e]
def ag(w:List Nat):PyData:=.str ⟨w.toArray⟩
def BA(w:List Nat):List (List Nat):=w.foldl (fun acc a=>acc++acc.map (· ++[a])) [[]]
theorem bX(l:List (List Nat)):bR (l.map ag)=true:=by
 induction l with
 |nil=>rfl
 |cons a l ih=>show(dP (ag a)&&bR (l.map ag))=true;rw[ih];rfl
theorem oO(u v:List Nat):(⟨u.toArray⟩:Str)++(⟨v.toArray⟩:Str)=⟨(u++v).toArray⟩:=by
 show(⟨u.toArray++v.toArray⟩:Str)=_
 simp
theorem ef(w:List Nat):(⟨w.toArray⟩:Str).length=w.length:=by show w.toArray.size=_;simp
theorem BB(a:Nat):∀(l:List (List Nat)) (x0:Sl),(∀u∈l,u.length≤1000)→dF fm dl dQ (l.map ag) [x0,.sh (.str ⟨#[a]⟩)]=some ((l.map (· ++[a])).map ag)
 |[],x0,_=>rfl
 |u::l,x0,h=>by
  have hu:=h u (jJ ..)
  have ap:(⟨u.toArray⟩:Str)++(⟨#[a]⟩:Str)=⟨(u++[a]).toArray⟩:=oO u [a]
  have l1:(⟨#[a]⟩:Str).length=1:=rfl
  have lb:u.length+1≤1000000:=by omega
  have e:fm (ag u) [x0,.sh (.str ⟨#[a]⟩)]=some [.sh (.str ⟨u.toArray⟩),.sh (.str ⟨#[a]⟩)]:=rfl
  have e2:dQ [.sh (.str ⟨u.toArray⟩),.sh (.str ⟨#[a]⟩)]=some (.sh (.str ⟨(u++[a]).toArray⟩),[.sh (.str ⟨u.toArray⟩),.sh (.str ⟨#[a]⟩)]):=by
   simp! [dQ,ef,l1,lb,ap]
  rw[gI,dF,e,Option.bind_some]
  simp! [dl,e2,BB a l _ fun v hv=>h v (gW _ hv)]
  rfl
theorem BC(x0:Sl):∀(w:List Nat) (l:List (List Nat)) (n:Nat) (a:Sl),l.length*2 ^ w.length≤100000→n+w.length≤1000→(∀u∈l,u.length≤n)→∃a',dk dm dq (w.map fun c=>.str ⟨#[c]⟩) [x0,.ow (l.map ag),a]=some ([x0,.ow ((w.foldl (fun acc a=>acc++acc.map (· ++[a])) l).map ag),a'],.nx)
 |[],l,n,a,_,_,_=>⟨a,rfl⟩
 |c::w,l,n,a,hb,hn,hl=>by
  have p1:1≤2 ^ w.length:=Nat.one_le_two_pow
  have lle:l.length≤100000:=by
   rw[List.length_cons,Nat.pow_succ]at hb
   have:l.length*1≤l.length*(2 ^ w.length*2):=Nat.mul_le_mul_left _ (by omega)
   omega
  have k:=BB c l .no fun u hu=>by have:=hl u hu;simp at hn;omega
  have lb:(l.map (· ++[c])).length≤1000000:=by simp;omega
  have lb2:l.length+(l.map (· ++[c])).length≤1000000:=by simp;omega
  have fl:=bX (l.map (· ++[c]))
  have lb3:l.length≤1000000:=by omega
  have lb4:l.length+l.length≤1000000:=by omega
  have st:(dm (.str ⟨#[c]⟩) [x0,.ow (l.map ag),a]).bind dq=some ([x0,.ow ((l++l.map (· ++[c])).map ag),.sh (.str ⟨#[c]⟩)],.nx):=by
   simp only[dm,dq,i9,wb,c7,Hx,Nat.reduceAdd,Nat.reduceSub,Nat.reduceLT,Nat.reduceLeDiff,k,fl,fw,lb3,lb4,←List.map_append]
  obtain⟨a',e⟩:=BC x0 w (l++l.map (· ++[c])) (n+1) (.sh (.str ⟨#[c]⟩)) (by
   rw[qY,fw,←Nat.two_mul,Nat.mul_assoc]
   rw[List.length_cons,Nat.pow_succ]at hb
   have e1:2*(l.length*2 ^ w.length)=l.length*(2 ^ w.length*2):=by rw[Nat.mul_comm 2,Nat.mul_assoc]
   omega) (by simp at hn;omega) (fun u hu=>by
    rcases Zaf.mp hu with q |q
    ·have:=hl u q;omega
    ·obtain⟨v,hv,rfl⟩:=Zaz.mp q
     have:=hl v hv
     simp;omega)
  refine⟨a',?_⟩
  rw[gI,dk,st]
  exact e
theorem BD(w:List Nat)(hw:w.length≤10):bP [.str ⟨w.toArray⟩]=some (.ow ((BA w).map ag)):=by
 have p:2 ^ w.length≤2 ^ 10:=Nat.pow_le_pow_right (by decide) hw
 obtain⟨a,e⟩:=BC (.sh (.str ⟨w.toArray⟩)) w [[]] 0 .no (by simp;omega) (by omega) (fun u hu=>by rw[Zac.mp hu];simp)
 have e0:[PyData.str ""]=([[]]:List (List Nat)).map ag:=rfl
 have sg:gJ (⟨w.toArray⟩:Str)=w.map fun c=>.str ⟨#[c]⟩:=by simp[gJ]
 have fl:=bX (BA w)
 unfold BA at fl ⊢
 have s1:aP 1 (cR (aw (pC (.str "")) cQ)) [.sh (.str ⟨w.toArray⟩),.no,.no]=some ([.sh (.str ⟨w.toArray⟩),.ow (([[]]:List (List Nat)).map ag),.no],.nx):=by
  rw[←e0]
  simp! [if_true]
 have it:∀y:Sl,b_ (ae 0) [.sh (.str ⟨w.toArray⟩),y,.no]=some (w.map fun c=>.str ⟨#[c]⟩,[.sh (.str ⟨w.toArray⟩),y,.no]):=fun y=>by
  simp! [sg]
 have fo:i7 (b_ (ae 0)) dm dq [.sh (.str ⟨w.toArray⟩),.ow (([[]]:List (List Nat)).map ag),.no]=some ([.sh (.str ⟨w.toArray⟩),.ow ((w.foldl (fun acc a=>acc++acc.map (· ++[a])) [[]]).map ag),a],.nx):=by
  unfold i7
  rw[it,Option.bind_some]
  exact e
 have g:bP [.str ⟨w.toArray⟩]=(gu [.sh (.str ⟨w.toArray⟩),.no,.no]).bind fun a=>match a.2 with |.rt r=>fA r |.nx=>some (.sh .none) |_=>none:=rfl
 rw[g,gu,aK s1,aK fo]
 simp! [fl]
open NhFam in
theorem wG(w:List Nat):NhSG.ir ⟨w.toArray⟩=key w:=by
 show(((⟨w.toArray⟩:Str).length:Int),w.toArray.toList)=((w.length:Int),w)
 rw[ef]
theorem sT:∀F:List (List Nat),j_ (F.map ag)=some (F.map fun w=>(⟨w.toArray⟩:Str))
 |[]=>rfl
 |w::F=>by
  show(j_ (F.map ag)).map ((⟨w.toArray⟩:Str):: ·)=_
  rw[sT F]
  rfl
theorem BE(F:List (List Nat)):NhSG.kb (F.map fun w=>(⟨w.toArray⟩:Str))=(NhFam.g8 F).map fun w=>(⟨w.toArray⟩:Str):=by
 refine(NhSG.pR ((List.mergeSort_perm F _).map _) ?_).symm
 rw[List.pairwise_map]
 exact(NhFam.l_ F).imp fun {a b} h=>by
  unfold NhSG.rj
  rw[wG,wG]
  have:NhSG.fY (NhFam.key b) (NhFam.key a)=false:=by simpa[NhFam.jm]using h
  rw[this];rfl
theorem Dq(F:List (List Nat)):(F.map fun w=>(⟨w.toArray⟩:Str)).map PyData.str=F.map ag:=by rw[List.map_map];rfl
def Fit(F:List (List Nat)):Prop:=F.length < 64∧∀w∈F,NH.l6 w∧w.length≤1000
theorem Fit.chk{F:List (List Nat)}(h:Fit F):(decide ((F.map fun w=>(⟨w.toArray⟩:Str)).length < 64)&&(F.map fun w=>(⟨w.toArray⟩:Str)).all fun z=>decide (z.length≤1000))=true:=by
 simp only[qZ,decide_eq_true_eq,List.all_eq_true,fw]
 refine⟨h.1,fun z hz=>?_⟩
 obtain⟨w,hw,rfl⟩:=Zaz.mp hz
 rw[ef]
 exact(h.2 w hw).2
theorem pb{F:List (List Nat)}(h:Fit F):bp [.list (F.map ag)]=some (.ow ((NhFam.g8 F).map ag)):=by
 have a:qI (ae 0) [.sh (.list (F.map ag))]=some (.ow ((NhFam.g8 F).map ag),[.sh (.list (F.map ag))]):=by
  unfold qI
  simp only[ae,Z2,Z0,look,Sl.val,sT,h.chk,if_true,BE,Dq]
 have fl:=bX (NhFam.g8 F)
 simp only[bp,dW,gB,xM,cI,bc,a,Z0,Z1,fA,fU,fl,Z4,Z5,Nat.sub_self,List.replicate,gI,List.map_nil,tL,Nat.reduceAdd,hW]
def aU(w:List Nat):PyData:=lJ (NH.bV w)
theorem mi(l:List (List Nat)):bR (l.map aU)=true:=by
 induction l with
 |nil=>rfl
 |cons a l ih=>show(dP (aU a)&&bR (l.map aU))=true;rw[ih];rfl
theorem oP(K:List (List Nat)):K.map aU=(K.map NH.bV).map lJ:=by rw[List.map_map];rfl
theorem sU{K:List (List Nat)}(h:∀k∈K,NH.l6 k)(w:List Nat):(K.map NH.bV).any (fun p=>decide (p &&& NH.bV w=p))=K.any (fun k=>decide (NhFam.le k w)):=by
 induction K with
 |nil=>rfl
 |cons k K ih=>
  rw[gI,List.any_cons,List.any_cons,ih fun k hk=>h k (gW _ hk)]
  congr 1
  exact decide_eq_decide.mpr (NH.yQ (h k (jJ ..)))
abbrev qE(x0:Sl)(K:List (List Nat))(w:List Nat):List Sl:=[x0,.ow (K.map ag),.ow (K.map aU),.sh (ag w),.sh (.int (NH.bV w))]
theorem oQ(x0:Sl):∀(S K:List (List Nat)) (a b:Sl),(∀w∈S,NH.l6 w)→(∀w∈K,NH.l6 w)→K.length+S.length≤2000→∃y a' b',dk cL b8 (S.map ag) [x0,.ow (K.map ag),.ow (K.map aU),a,b]=some ([x0,.ow ((NhFam.gE K S).map ag),y,a',b'],.nx)
 |[],K,a,b,_,_,_=>⟨_,a,b,rfl⟩
 |w::S,K,a,b,hS,hK,hl=>by
  have tg:cL (ag w) [x0,.ow (K.map ag),.ow (K.map aU),a,b]=some [x0,.ow (K.map ag),.ow (K.map aU),.sh (ag w),b]:=rfl
  have c1:aj aQ (af false (ae 3) am) [x0,.ow (K.map ag),.ow (K.map aU),.sh (ag w),b]=some (.sh (.int (NH.bV w)),[x0,.ow (K.map ag),.ow (K.map aU),.sh (ag w),b]):=aE (ss:=[.sh (ag w)]) rfl rfl (iH w)
  have s1:aP 4 (aj aQ (af false (ae 3) am)) [x0,.ow (K.map ag),.ow (K.map aU),.sh (ag w),b]=some ((qE x0 K w),.nx):=gU c1 (show 4 < 5 by decide)
  have pp:=wF (NH.bV w) (K.map NH.bV)
  rw[←oP,sU hK w]at pp
  have c2:bM (aj aG (af false (ae 4) (af false (ae 2) am))) (qE x0 K w)=some (K.any (fun k=>decide (NhFam.le k w)),(qE x0 K w)):=by
   have c3:aj aG (af false (ae 4) (af false (ae 2) am)) (qE x0 K w)=some (.sh (.bool (K.any (fun k=>decide (NhFam.le k w)))),(qE x0 K w)):=aE (ss:=[.sh (.int (NH.bV w)),.al 2]) rfl rfl pp
   simp only[bM,c3,Z0,look,Sl.val,iX,Z1]
  by_cases h:K.any (fun k=>decide (NhFam.le k w))=true
  ·rw[h]at c2
   have st:(cL (ag w) [x0,.ow (K.map ag),.ow (K.map aU),a,b]).bind b8=some ((qE x0 K w),.nx):=by
    rw[tg,Option.bind_some,b8,aK s1]
    refine jA ?_ rfl
    simp only[aV,c2,Z1,Bool.not_true]
   obtain⟨y,a',b',e⟩:=oQ x0 S K (.sh (ag w)) (.sh (.int (NH.bV w))) (fun v hv=>hS v (gW _ hv)) hK (by simp at hl;omega)
   refine⟨y,a',b',?_⟩
   rw[gI,dk,st,NhFam.gE,if_pos h]
   exact e
  ·have h':K.any (fun k=>decide (NhFam.le k w))=false:=by simpa using h
   rw[h']at c2
   have b1:K.length < 1000000:=by simp at hl;omega
   have st:(cL (ag w) [x0,.ow (K.map ag),.ow (K.map aU),a,b]).bind b8=some ([x0,.ow ((K++[w]).map ag),.ow ((K++[w]).map aU),.sh (ag w),.sh (.int (NH.bV w))],.nx):=by
    rw[tg,Option.bind_some,b8,aK s1]
    have n2:aV (bM (aj aG (af false (ae 4) (af false (ae 2) am)))) (qE x0 K w)=some (true,(qE x0 K w)):=by
     simp only[aV,c2,Z1,Bool.not_false]
    refine qL n2 ?_
    have a1:gh (k8 2 (ae 4)) (qE x0 K w)=some ([x0,.ow (K.map ag),.ow ((K++[w]).map aU),.sh (ag w),.sh (.int (NH.bV w))],.nx):=by
     simp only[Hx,Nat.reduceAdd,Nat.reduceSub,Nat.reduceLT,Nat.reduceLeDiff,fw,b1,List.map_append]
     rfl
    rw[aK a1]
    simp only[Hx,Nat.reduceAdd,Nat.reduceSub,Nat.reduceLT,Nat.reduceLeDiff,fw,b1,List.map_append]
   obtain⟨y,a',b',e⟩:=oQ x0 S (K++[w]) (.sh (ag w)) (.sh (.int (NH.bV w))) (fun v hv=>hS v (gW _ hv)) (fun v hv=>by
    rcases Zaf.mp hv with q |q
    ·exact hK v q
    ·rw[Zac.mp q];exact hS w (jJ ..)) (by simp at hl ⊢;omega)
   refine⟨y,a',b',?_⟩
   rw[gI,dk,st,NhFam.gE,if_neg h]
   exact e
theorem jE{F:List (List Nat)}(h:Fit F):bq [.list (F.map ag)]=some (.ow ((NhFam.d7 F).map ag)):=by
 obtain⟨y,a,b,e⟩:=oQ (.sh (.list (F.map ag))) (NhFam.g8 F) [] .no .no (fun w hw=>(h.2 w (NhFam.sortT_mem.mp hw)).1) (fun w hw=>by cases hw) (by
  have:(NhFam.g8 F).length=F.length:=(List.mergeSort_perm F _).length_eq
  have:=h.1
  simp;omega)
 have it:b_ (aj bp (af false (ae 0) am)) [.sh (.list (F.map ag)),.ow [],.ow [],.no,.no]=some ((NhFam.g8 F).map ag,[.sh (.list (F.map ag)),.ow [],.ow [],.no,.no]):=by
  have c:aj bp (af false (ae 0) am) [.sh (.list (F.map ag)),.ow [],.ow [],.no,.no]=some (.ow ((NhFam.g8 F).map ag),[.sh (.list (F.map ag)),.ow [],.ow [],.no,.no]):=aE (ss:=[.sh (.list (F.map ag))]) rfl rfl (pb h)
  unfold b_
  rw[c]
  rfl
 have fo:i7 (b_ (aj bp (af false (ae 0) am))) cL b8 [.sh (.list (F.map ag)),.ow [],.ow [],.no,.no]=some ([.sh (.list (F.map ag)),.ow ((NhFam.d7 F).map ag),y,a,b],.nx):=by
  unfold i7
  rw[it,Option.bind_some]
  exact e
 have g:bq [.list (F.map ag)]=(gr [.sh (.list (F.map ag)),.no,.no,.no,.no]).bind fun a=>match a.2 with |.rt r=>fA r |.nx=>some (.sh .none) |_=>none:=rfl
 have s1:aP 1 (cR cQ) [.sh (.list (F.map ag)),.no,.no,.no,.no]=some ([.sh (.list (F.map ag)),.ow [],.no,.no,.no],.nx):=by simp! [if_true]
 have s2:aP 2 (cR cQ) [.sh (.list (F.map ag)),.ow [],.no,.no,.no]=some ([.sh (.list (F.map ag)),.ow [],.ow [],.no,.no],.nx):=by simp! [if_true]
 have fl:=bX (NhFam.d7 F)
 rw[g,gr,aK s1,aK s2,aK fo]
 simp! [fl]
def mj(w:List Nat):Str:=⟨w.toArray⟩
theorem dw(w:List Nat):NhFam.Srt (av w):=List.Pairwise.sublist List.filter_sublist (List.pairwise_lt_range' ..)
theorem sV{w:List Nat}(h:NhFam.Srt w)(a:∀y∈w,az y):av w=w:=
 (dw w).ext h (fun x hx=>(inOrd_mem.mp hx).2) fun x hx=>inOrd_mem.mpr ⟨fS (a x hx),hx⟩
theorem Dr:∀F:List (List Nat),Txt.join "" (F.map mj)=⟨F.flatten.toArray⟩:=by
 intro F
 show Builtin.Str.glued "" _=_
 rw[StrLaws.glued_eq_join]
 induction F with
 |nil=>rfl
 |cons a F ih=>
  cases F with
  |nil=>simp[Str.join,mj]
  |cons b F=>
   have e:Str.join "" ((a::b::F).map mj)=(mj a)++""++Str.join "" ((b::F).map mj):=rfl
   rw[e,ih]
   show(⟨(a.toArray++(Str.ofString "").cps)++(b::F).flatten.toArray⟩:Str)=_
   rw[show(Str.ofString "").cps=#[] by decide+kernel]
   simp
theorem ml:∀F:List (List Nat),eZ (F.map ag)=some (F.map mj)
 |[]=>rfl
 |w::F=>by
  show(eZ (F.map ag)).map (mj w:: ·)=_
  rw[ml F]
  rfl
theorem BF:∀F:List (List Nat),((F.map mj).map (·.length)).sum+(F.map mj).length*(Str.ofString "").length=F.flatten.length:=by
 intro F
 have:(Str.ofString "").length=0:=rfl
 rw[this,Nat.mul_zero,Nat.add_zero]
 induction F with
 |nil=>rfl
 |cons a F ih=>
  simp only[gI,List.sum_cons,ih,List.flatten_cons,qY]
  rw[show(mj a).length=a.length from ef a]
theorem fu{w:List Nat}(h:w.length≤10):aN [ag w]=some (.sh .none):=by
 have l:=ef w
 have lt:¬((w.length:Int) > 10):=by omega
 have lb:w.length≤1000000:=by omega
 dsimp! [aN,fZ,ag,l,lt,lb]
theorem iI{c:iT}{rs:List PyData}(hi:it E=some (ds,E1))(hl:dF tg c el ds (i9 js E1)=some rs)(fl:bR rs=true)(ll:rs.length≤1000000):c7 js it tg c el E=some (.ow rs,E1):=by
 simp only[c7,hi,Z0,hl,fl,ll,and_self,Z1,Bool.and_self,hW]
theorem mn:∀(F:List (List Nat)) (x:Sl),dF bw dl bx (F.map ag) [x]=some (F.map aU)
 |[],x=>rfl
 |v::F,x=>by
  have t:bw (ag v) [x]=some [.sh (ag v)]:=rfl
  have e:bx [.sh (ag v)]=some (.sh (.int (NH.bV v)),[.sh (ag v)]):=aE (ss:=[.sh (ag v)]) rfl rfl (iH v)
  exact qM t e (mn F _)
theorem BG{K:List (List Nat)}(h:∀k∈K,NH.l6 k)(w:List Nat):(K.map NH.bV).all (fun p=> !decide (p &&& NH.bV w=0))=NhFam.mI K w:=by
 unfold NhFam.mI
 induction K with
 |nil=>rfl
 |cons k K ih=>
  rw[gI,List.all_cons,List.all_cons,ih fun k hk=>h k (gW _ hk)]
  congr 1
  exact congrArg not (decide_eq_decide.mpr (NH.yR (h k (jJ ..))))
theorem Ea{elt:bj}{r:PyData}{rs:List PyData}{b:Bool}(t:tg d E=some E1)(c:cond E1=some (b,E1))(el:elt E1=some (.sh r,E1))(h:dF tg cond elt ds E1=some rs):dF tg cond elt (d::ds) E=some (if b then r::rs else rs):=by
 cases b with
 |true=>simp only[dF,t,c,el,h,Z0,Z1,if_true,frz]
 |false=>simp only[dF,t,c,h,Z0,hW]
theorem wH{K:List (List Nat)}(hK:∀k∈K,NH.l6 k):∀(F:List (List Nat)) (x:Sl),dF dA cD dB (F.map ag) [x,.sh (.list (K.map aU))]=some ((F.filter (NhFam.mI K)).map ag)
 |[],x=>rfl
 |v::F,x=>by
  have t:dA (ag v) [x,.sh (.list (K.map aU))]=some [.sh (ag v),.sh (.list (K.map aU))]:=rfl
  have el:dB [.sh (ag v),.sh (.list (K.map aU))]=some (.sh (ag v),[.sh (ag v),.sh (.list (K.map aU))]):=rfl
  have c1:aj aQ (af false (ae 0) am) [.sh (ag v),.sh (.list (K.map aU))]=some (.sh (.int (NH.bV v)),[.sh (ag v),.sh (.list (K.map aU))]):=aE (ss:=[.sh (ag v)]) rfl rfl (iH v)
  have pm:=Bz (NH.bV v) (K.map NH.bV)
  rw[←oP,BG hK v]at pm
  have c2:aj cK (af false (aj aQ (af false (ae 0) am)) (af false (ae 1) am)) [.sh (ag v),.sh (.list (K.map aU))]=some (.sh (.bool (NhFam.mI K v)),[.sh (ag v),.sh (.list (K.map aU))]):=aE (ss:=[.sh (.int (NH.bV v)),.sh (.list (K.map aU))]) (by simp only[af,am,c1,Z0,Z1,ae,Z3,Z2,hW]) rfl pm
  have c:cD [.sh (ag v),.sh (.list (K.map aU))]=some (NhFam.mI K v,[.sh (ag v),.sh (.list (K.map aU))]):=by
   unfold cD
   simp only[bM,c2,Z0,look,Sl.val,iX,Z1]
  rw[gI,Ea t c el (wH hK F _),List.filter_cons]
  split <;> rfl
theorem m_{r:Sl}(h:f E=some (r,E1)):gh f E=some (E1,.nx):=by
 simp only[gh,h,Z1]
theorem gV{i:Nat}(h:f E=some (.ow ds,E1))(hi:i < E1.length):aP i f E=some (E1.set i (.ow ds),.nx):=by
 simp only[aP,h,Z0,PL.settle,Sl.isAl,hi,Z1,hW]
theorem pZ{w:List Nat}(n:w.Nodup)(a:∀y∈w,az y):fD (w.map eG)=(av w).map eG:=by
 refine(List.Perm.eq_of_pairwise (fun _ _ _ _ h k=>nR h k) (lI w) (List.pairwise_mergeSort jT lS _) ?_).symm
 refine List.Perm.trans ?_ (List.mergeSort_perm _ _).symm
 refine iG (kO (jD w)) (kO n) fun y=>?_
 constructor
 ·intro h
  obtain⟨a,ha,rfl⟩:=Zaz.mp h
  exact Zaz.mpr ⟨a,(inOrd_mem.mp ha).2,rfl⟩
 ·intro h
  obtain⟨b,hb,rfl⟩:=Zaz.mp h
  exact Zaz.mpr ⟨b,inOrd_mem.mpr ⟨fS (a b hb),hb⟩,rfl⟩
theorem dL{w:List Nat}(n:w.Nodup)(a:∀y∈w,az y):(av w).length=w.length:=
 (iG (jD w) n fun y=>⟨fun h=>(inOrd_mem.mp h).2,fun h=>inOrd_mem.mpr ⟨fS (a y h),h⟩⟩).length_eq
theorem Ig{g:bj}(hf:f E=some (s1,E))(hg:g E=some (s2,E)):af false f (af false g am) E=some ([s1,s2],E):=by
 simp only[af,am,hf,hg,Z0,Z1,hW]
theorem qO{g:bj}{x:Int}(hf:f E=some (.sh (.int x),E))(hg:g E=some (.sh (.int y),E))(h:0 < y):ao eM false f g E=some (.sh (.int (x % y)),E):=by
 simp only[ao,hf,hg,Z0,eM,kR,Aa,look,Sl.val,h,Z1,hW]
theorem j4{g:bj}{x:Int}(hf:f E=some (.sh (.int x),E))(hg:g E=some (.sh (.int y),E))(h:eW y=true):ao di false f g E=some (.sh (.int (x / y)),E):=by
 simp only[ao,hf,hg,Z0,di,kR,Aa,look,Sl.val,h,Z1,hW]
theorem Ds(hf:f E=some (s1,E)):af false f am E=some ([s1],E):=by
 simp only[af,am,hf,Z0,Z1,hW]
structure Uni (U:List Nat):Prop where
 srt:NhFam.Srt U
 lt:∀a∈U,az a
 len:U.length≤26
theorem Uni.ltrs{w:List Nat}(h:Uni U)(s:NhFam.Sub U w):NH.l6 w:=fun a ha=>by
 have:=h.lt a (s.2 a ha)
 exact⟨this.1,this.2⟩
theorem Uni.short{w:List Nat}(h:Uni U)(s:NhFam.Sub U w):w.length≤26:=lL (NhFam.cT s.1 h.srt s.2).length_le h.len
structure Wrt (U:List Nat) (W:List (List Nat)):Prop where
 sub:∀t∈W,NhFam.le t U
 tl:∀t∈W,t.length≤100
 len:W.length≤60
def eX(W:List (List Nat)):List (List Nat):=W.map av
theorem Dt{t:List Nat}(u:Uni U)(h:NhFam.le t U):NhFam.Sub U (av t):=⟨dw t,fun x hx=>h x (inOrd_mem.mp hx).2⟩
theorem Wrt.sets(u:Uni U)(h:Wrt U W):∀v∈eX W,NhFam.Sub U v:=fun v hv=>by
 obtain⟨t,ht,rfl⟩:=Zaz.mp hv
 exact Dt u (h.sub t ht)
theorem vC{F:List (List Nat)}(u:Uni U)(h:∀v∈F,NhFam.Sub U v)(hl:F.length < 64):Fit F:=⟨hl,fun w hw=>⟨u.ltrs (h w hw),by have:=u.short (h w hw);omega⟩⟩
theorem kc(u:Uni U):∀(W:List (List Nat)) (x:Sl),(∀t∈W,NhFam.le t U)→(∀t∈W,t.length≤100)→dF cj dl ck (W.map ag) [x]=some ((eX W).map ag)
 |[],x,_,_=>rfl
 |v::W,x,h,hl=>by
  have t:cj (ag v) [x]=some [.sh (ag v)]:=rfl
  have so:=hU (w:=v) (fun y hy=>u.lt y (h v (jJ ..) y hy)) (by have:=hl v (jJ ..);omega)
  have e:ck [.sh (ag v)]=some (.sh (ag (av v)),[.sh (ag v)]):=aE (ss:=[.sh (ag v)]) rfl rfl so
  exact qM t e (kc u W _ (fun v hv=>h v (gW _ hv)) fun v hv=>hl v (gW _ hv))
theorem ke(u:Uni U)(h:Wrt U W):bi [.list (W.map ag)]=some (.ow ((NhFam.d7 (eX W)).map ag)):=by
 have ls:(eX W).length=W.length:=by unfold eX;rw[fw]
 have hl:=h.len
 have c:c7 [none] (b_ (ae 0)) cj dl ck [.sh (.list (W.map ag))]=some (.ow ((eX W).map ag),[.sh (.list (W.map ag))]):=iI rfl (kc u W _ h.sub h.tl) (bX _) (by rw[fw];omega)
 have b:aj bq (af false (c7 [none] (b_ (ae 0)) cj dl ck) am) [.sh (.list (W.map ag))]=some (.ow ((NhFam.d7 (eX W)).map ag),[.sh (.list (W.map ag))]):=aE (ss:=[.ow ((eX W).map ag)]) (by simp only[af,am,c,Z0,Z1,hW]) rfl (jE (vC u (h.sets u) (by omega)))
 have fl:=bX (NhFam.d7 (eX W))
 simp only[bi,f8,gB,xM,cI,bc,b,Z0,Z1,fA,fU,fl,Z4,Z5,Nat.sub_self,List.replicate,gI,List.map_nil,tL,Nat.reduceAdd,hW]
theorem F_{w:List Nat}(h:∀a∈w,az a):(ag w).canLay0=true:=by
 have:∀a∈w,a < 1114112:=fun a ha=>by have:=h a ha;unfold az at this;omega
 simp only[ag,PyData.canLay0,PyData.strOk]
 simpa using this
theorem BH:∀{L:List (List Nat)},(∀w∈L,∀a∈w,az a)→PyData.canLayAll0 (L.map ag)=true∧PyData.depthAll (L.map ag)=0
 |[],_=>by simp[PyData.canLayAll0,PyData.depthAll]
 |w::L,h=>by
  obtain⟨x,y⟩:=BH (L:=L) fun v hv=>h v (gW _ hv)
  have h1:=F_ (h w (jJ ..))
  have h2:(ag w).depth=0:=by simp[ag,PyData.depth]
  simp only[gI,PyData.canLayAll0,PyData.depthAll,h1,h2,x,y,Bool.and_self,true_and]
  rfl
theorem yZ{L:List (List Nat)}(h:∀w∈L,∀a∈w,az a):SeqAt.shaped (.list (L.map ag))=true:=by
 obtain⟨x,y⟩:=BH h
 unfold SeqAt.shaped
 simp only[PyData.canLay0,PyData.depth,x,y,Bool.true_and]
 decide
theorem BI:∀L:List (List Nat),PyData.eqvAll (L.map ag) (L.map ag)=true
 |[]=>by simp[PyData.eqvAll]
 |w::L=>by
  simp only[gI,PyData.eqvAll,BI L,Bool.and_true]
  simp[ag,PyData.eqv]
theorem qP{L:List (List Nat)}(h:∀w∈L,∀a∈w,az a):D0 (.list (L.map ag)) (.list (L.map ag))=some true:=by
 have e:D0 (.list (L.map ag)) (.list (L.map ag))=(if SeqAt.shaped (.list (L.map ag))&&SeqAt.shaped (.list (L.map ag))then some (PyData.eqv (.list (L.map ag)) (.list (L.map ag)))else none):=rfl
 rw[e,yZ h]
 simp only[PyData.eqv,BI,Bool.and_self,if_true]
theorem mq{w:List Nat}(hf:f E=some (.ow (w.map b0),E))(hl:w.length < 64)(n:w.Nodup)(a:∀y∈w,az y):fX f E=some (.ow ((av w).map b0),E):=by
 have l:(w.map eG).length < 64:=by rw[fw];exact hl
 have m:((av w).map eG).map PyData.str=(av w).map b0:=by rw[List.map_map];rfl
 simp only[fX,hf,Z0,look,Sl.val,sQ,l,if_true,pZ n a,m]
theorem HB{L:List (List Nat)}{g:bj}(hf:f E=some (s1,E))(hg:g E=some (s2,E))(l1:look E s1=some (.list (L.map ag)))(l2:look E s2=some (.list (L.map ag)))(h:∀w∈L,∀a∈w,az a):iN (ao GZ false f g) E=some (false,E):=by
 have d:=qP h
 simp only[iN,ao,hf,hg,Z0,GZ,kR,l1,l2,d,Z1,hW]
structure IsR (W:List (List Nat)):Prop where
 nil:W≠[]
 set:∀w∈W,w≠[]∧NhFam.Srt w
 ord:W.Pairwise fun v w=>¬NhFam.le v w∧NhFam.jm v w
def Gu:List Nat:=List.range' 97 26
theorem abc_uni:Uni Gu:=⟨List.pairwise_lt_range' ..,fun a h=>by
 have:=List.mem_range'_1.mp h
 exact⟨this.1,this.2⟩,by unfold Gu;rw[List.length_range'];decide⟩
theorem Ga{w:List Nat}(h:∀a∈w,az a):NhFam.le w Gu:=fun a ha=>fS (h a ha)
structure Txs (W:List (List Nat)):Prop where
 az:∀w∈W,∀a∈w,az a
 tl:∀w∈W,w.length≤100
 len:W.length≤60
theorem Txs.wrt(h:Txs W):Wrt Gu W:=⟨fun w hw=>Ga (h.az w hw),h.tl,by have:=h.len;omega⟩
theorem qQ(a:∀w∈W,∀x∈w,az x)(h:∀w∈W,NhFam.Srt w):eX W=W:=by
 unfold eX
 conv=>rhs;rw[←List.map_id W]
 exact List.map_congr_left fun w hw=>sV (h w hw) (a w hw)
open NhFam in
theorem p6:∀(S K:List (List Nat)),(K++S).Pairwise (fun v w=>¬le v w)→gE K S=K++S
 |[],K,_=>by rw[gE,tL]
 |w::S,K,h=>by
  have n:¬(K.any (fun k=>decide (le k w))=true):=fun z=>by
   obtain⟨k,hk,e⟩:=List.any_eq_true.mp z
   exact(List.pairwise_append.mp h).2.2 k hk w (jJ ..) (zz5 e)
  rw[gE,if_neg n,p6 S (K++[w]) (by rw[List.append_assoc];exact h),List.append_assoc]
  rfl
open NhFam in
theorem y_(h:W.Pairwise jm):g8 W=W:=
 List.Perm.eq_of_pairwise (fun a b _ _ x y=>l7 y x) (l_ W) (h.imp fun {a b} z=>l9 z) (List.mergeSort_perm W _)
open NhFam in
theorem mv(a:∀w∈W,∀x∈w,az x)(h:IsR W):d7 (eX W)=W:=by
 rw[qQ a fun w hw=>(h.set w hw).2]
 unfold d7
 rw[y_ (h.ord.imp fun z=>z.2)]
 exact p6 W [] (h.ord.imp fun z=>z.1)
theorem vD(h:Txs W):bE [.list (W.map ag)]=some (.ow ((NhFam.d7 (eX W)).map ag)):=by
 have c:=aE (c:=bi) (g:=af false (ae 0) am) (E:=[.sh (.list (W.map ag))]) (ss:=[.sh (.list (W.map ag))]) rfl rfl (ke abc_uni h.wrt)
 have fl:=bX (NhFam.d7 (eX W))
 simp only[bE,dg,gB,xM,cI,bc,c,Z0,Z1,fA,fU,fl,Z4,Z5,Nat.sub_self,List.replicate,gI,List.map_nil,tL,Nat.reduceAdd,hW]
theorem sW{a b:fI}{x:Str×List Sl}(h:a E=some x):si a b E=some x:=by
 unfold si
 rw[h]
theorem sX{a b:fI}(h:a E=none):si a b E=b E:=by
 unfold si
 rw[h]
theorem sY{t:iT}{r:fI}(h:t E=some (true,E1)):pN t r E=r E1:=by
 unfold pN
 rw[h]
theorem BJ{t:iT}{r:fI}(h:t E=some (false,E1)):pN t r E=none:=by
 unfold pN
 rw[h]
theorem Eb{f:cZ}{r:fI}(h:f E=some (E1,.nx)):il f r E=r E1:=by
 unfold il
 rw[h]
theorem kQ{r:fI}{x:Str×List Sl}(h:ds.length=k)(e:r (cI n ds)=some x):rh k n r ds=some x.1:=by
 unfold rh
 rw[if_pos h,e]
 rfl
theorem Gb{r:fI}(e:r (cI n ds)=none):rh k n r ds=none:=by
 unfold rh
 rw[e]
 split <;> rfl
theorem Du{a:Nat}(h:¬az a):bJ [b0 a]=some (.sh (.bool false)):=by
 have l:(⟨#[a]⟩:Str).length=1:=rfl
 have t:(#[a]:Array Nat).toList=[a]:=rfl
 have ea:(Str.ofString "a").cps.toList=[97]:=by decide+kernel
 have ez:(Str.ofString "z").cps.toList=[122]:=by decide+kernel
 by_cases h1:a < 97
 ·have lo:decide ([a] < (Str.ofString "a").cps.toList)=true:=by rw[ea];exact zz4 (List.Lex.rel h1)
  simp! [b0,bJ,gc,l,t,lo]
 ·have h2:122 < a:=by unfold az at h;omega
  have lo:decide ([a] < (Str.ofString "a").cps.toList)=false:=by
   rw[ea]
   refine zz3 fun k=>?_
   cases k with
   |rel k=>exact h1 k
   |cons k=>cases k
  have hi:decide ((Str.ofString "z").cps.toList < [a])=true:=by rw[ez];exact zz4 (List.Lex.rel h2)
  simp! [b0,bJ,gc,l,t,lo,hi]
def lK:fI:=pN (aV (bM (aj bJ (af false (ae 1) am)))) (iP "NoNails")
theorem qR(x0:Sl)(a:Nat)(b:Bool)(h:bJ [b0 a]=some (.sh (.bool b))):aV (bM (aj bJ (af false (ae 1) am))) [x0,.sh (b0 a)]=some (!b,[x0,.sh (b0 a)]):=by
 have e:aj bJ (af false (ae 1) am) [x0,.sh (b0 a)]=some (.sh (.bool b),[x0,.sh (b0 a)]):=aE (ss:=[.sh (b0 a)]) rfl rfl h
 simp only[aV,bM,e,Z0,Sl.val,iX,Z1]
theorem Dv{g:gA}{b:cZ}{r:fI}{x:Str×List Sl}(t:g d E=some E1)(h:r E1=some x):jd g b r (d::ds) E=some x:=by
 show(g d E).bind _=_
 rw[t,Option.bind_some]
 simp only[h]
theorem BK{g:gA}{b:cZ}{r:fI}(t:g d E=some E1)(h:r E1=none)(q:b E1=some (E2,.nx)):jd g b r (d::ds) E=jd g b r ds E2:=by
 show(g d E).bind _=_
 rw[t,Option.bind_some]
 simp only[h,q]
theorem BL(x0:Sl):∀(w:List Nat) (x:Sl),(∃a∈w,¬az a)→∃E',jd bF bG lK (w.map b0) [x0,x]=some (("NoNails":Str),E')
 |[],x,h=>by obtain⟨a,h,_⟩:=h;cases h
 |a::w,x,h=>by
  have t:bF (b0 a) [x0,x]=some [x0,.sh (b0 a)]:=rfl
  by_cases ha:az a
  ·have n:=qR x0 a true (kP ha)
   have r:lK [x0,.sh (b0 a)]=none:=by unfold lK pN;rw[n];rfl
   have g:bG [x0,.sh (b0 a)]=some ([x0,.sh (b0 a)],.nx):=jA n rfl
   obtain⟨E',q⟩:=BL x0 w (.sh (b0 a)) (by
    obtain⟨b,hb,nb⟩:=h
    rcases Zai.mp hb with rfl |hb
    ·exact absurd ha nb
    ·exact⟨b,hb,nb⟩)
   refine⟨E',?_⟩
   rw[gI,BK t r g]
   exact q
  ·have n:=qR x0 a false (Du ha)
   have r:lK [x0,.sh (b0 a)]=some (("NoNails":Str),[x0,.sh (b0 a)]):=by unfold lK pN;rw[n];rfl
   refine⟨[x0,.sh (b0 a)],?_⟩
   rw[gI,Dv t r]
theorem wI(x0:Sl):∀(w:List Nat) (x:Sl),(∀a∈w,az a)→jd bF bG lK (w.map b0) [x0,x]=none
 |[],x,h=>rfl
 |a::w,x,h=>by
  have t:bF (b0 a) [x0,x]=some [x0,.sh (b0 a)]:=rfl
  have n:=qR x0 a true (kP (h a (jJ ..)))
  have r:lK [x0,.sh (b0 a)]=none:=by unfold lK pN;rw[n];rfl
  have g:bG [x0,.sh (b0 a)]=some ([x0,.sh (b0 a)],.nx):=jA n rfl
  rw[gI,BK t r g]
  exact wI x0 w _ fun b hb=>h b (gW _ hb)
theorem wJ(w:List Nat):lE [.sh (ag w),.no]=jd bF bG lK (w.map b0) [.sh (ag w),.no]:=by
 rw[←wB]
 rfl
theorem mQ{w:List Nat}(h:∃a∈w,¬az a):bK [ag w]=some "NoNails":=by
 obtain⟨E',q⟩:=BL (.sh (ag w)) w .no h
 exact kQ (x:=("NoNails",E')) rfl ((wJ w).trans q)
theorem qS{w:List Nat}(h:∀a∈w,az a):bK [ag w]=none:=Gb ((wJ w).trans (wI _ w _ h))
theorem eY{r:List PyData→Option Str}{g:lM}{rs:List Sl}{n:Str}(g1:g E=some (rs,E1))(l:fT E1 rs=some ds)(h:r ds=some n):cB r g E=some (n,E1):=by
 unfold cB
 rw[g1,Option.bind_some]
 simp only[l,Z0,h,Z1]
theorem jF{js:List Nat}{r:List PyData→Option Str}{g:lM}{ok:List Str}{c:Str→PyData→Option Sl}{due:Int}{nm:Str}{sv:Sl}(v:vals E js=some ds)(rc:cB r g (cI n ds)=some (nm,E1))(ho:nm∈ok)(hc:c nm (.int due)=some sv):jf js n r g ok c due E=some (sv,E):=by
 unfold jf
 rw[v,Option.bind_some,rc,Option.bind_some]
 simp only[if_pos ho,hc,Z1]
theorem jG(h:f E=some (.sh (.bool true),E)):(cg (aV (bM f)) (bc (pC (.bool false))) bh) E=some (E,.nx):=by
 have t:(aV (bM f)) E=some (false,E):=by
  simp only[aV,bM,h,Z0,Sl.val,iX,Z1,Bool.not_true]
 exact jA t rfl
theorem sZ{r:List PyData→Option Str}{g:lM}{rs:List Sl}(g1:g E=some (rs,E1))(l:fT E1 rs=some ds)(h:r ds=none):cB r g E=none:=by
 unfold cB
 rw[g1,Option.bind_some]
 simp only[l,Z0,h,Option.map_none]
theorem Dw{re:fI}{x:Str×List Sl}(t:tg d E=some E1)(h:re E1=some x):gn tg el re (d::ds) E=some x.1:=by
 rw[gn,t,Option.bind_some]
 simp only[h]
theorem BM{re:fI}{r:PyData}(t:tg d E=some E1)(h:re E1=none)(e:el E1=some (.sh r,E2)):gn tg el re (d::ds) E=gn tg el re ds E2:=by
 rw[gn,t,Option.bind_some]
 simp only[h,e,Z0,frz]
def zA:bj:=aj b9 (af false (ae 0) am)
def rY:fI:=cB bK (af false (ae 0) am)
def Gd(d:PyData):Prop:=∃w:List Nat,d=ag w∧(∀a∈w,az a)∧w.length≤3900
theorem s_:∀(ds:List PyData) (x:Sl),(∀g∈ds,Gd g)→gn (bH 0) zA rY ds [x]=none
 |[],x,_=>rfl
 |g::ds,x,h=>by
  obtain⟨w,rfl,hw,hl⟩:=h g (jJ ..)
  have e1:rY [.sh (ag w)]=none:=sZ (rs:=[.sh (ag w)]) (ds:=[ag w]) rfl rfl (qS hw)
  have e2:zA [.sh (ag w)]=some (.sh (ag (av w)),[.sh (ag w)]):=aE (ss:=[.sh (ag w)]) rfl rfl (hU hw hl)
  rw[BM (show bH 0 (ag w) [x]=some [.sh (ag w)]from rfl) e1 e2]
  exact s_ ds _ fun g hg=>h g (gW _ hg)
theorem BN(L:List PyData)(hl:L.length≤1000000):f_ [.sh (.list L)]=(gn (bH 0) zA rY L [.no]).map fun n=>(n,[.sh (.list L)]):=by
 show sC [none] (b_ (ae 0)) (bH 0) zA rY [.sh (.list L)]=_
 have e:b_ (ae 0) [.sh (.list L)]=some (L,[.sh (.list L)]):=rfl
 unfold sC
 rw[e,Option.bind_some]
 simp only[if_pos hl]
 rfl
theorem pe{L:List PyData}(h:∀g∈L,Gd g)(hl:L.length≤1000000):cM [.list L]=none:=
 Gb ((BN _ hl).trans (by rw[s_ L _ h];rfl))
theorem Txs.gd(h:Txs W):∀g∈W.map ag,Gd g:=fun g hg=>by
 obtain⟨w,hw,rfl⟩:=Zaz.mp hg
 exact⟨w,rfl,h.az w hw,by have:=h.tl w hw;omega⟩
def jn:List (List Nat)→List Nat
 |[]=>[]
 |[w]=>w
 |w::v::r=>w++32::jn (v::r)
theorem Ji:(Str.ofString " ")=⟨#[32]⟩:=by decide+kernel
theorem Dx:∀F:List (List Nat),Str.join " " (F.map mj)=mj (jn F):=by
 intro F
 induction F with
 |nil=>rfl
 |cons a F ih=>
  cases F with
  |nil=>simp[Str.join,mj,jn]
  |cons b F=>
   have e:Str.join " " ((a::b::F).map mj)=(mj a)++" "++Str.join " " ((b::F).map mj):=rfl
   rw[e,ih,Ji]
   show(⟨(a.toArray++#[32])++(jn (b::F)).toArray⟩:Str)=⟨(a++32::jn (b::F)).toArray⟩
   simp
theorem BO(t:List Nat):∃W:List (List Nat),Txt.split (mj t) " "=W.map mj∧jn W=t:=by
 have a:=StrLaws.join_split (mj t) " "
 generalize Txt.split (mj t) " "=P at a
 have e:P=(P.map fun p=>p.cps.toList).map mj:=by
  rw[List.map_map]
  exact(List.map_id'' (fun p=>by cases p;simp[mj]) P).symm
 generalize (P.map fun p=>p.cps.toList)=G at e
 rw[e,Dx]at a
 exact⟨G,e,by simpa[mj]using congrArg (fun s:Str=>s.cps.toList) a⟩
theorem BP{a:Nat}(h32:a≠32):∀W:List (List Nat),a∈jn W→∃w∈W,a∈w
 |[],h=>by cases h
 |[w],h=>⟨w,by simp,h⟩
 |w::v::r,h=>by
  rcases Zaf.mp (show a∈w++32::jn (v::r)from h)with q |q
  ·exact⟨w,by simp,q⟩
  ·rcases Zai.mp q with z |q
   ·exact absurd z h32
   ·obtain⟨u,hu,k⟩:=BP h32 (v::r) q
    exact⟨u,gW _ hu,k⟩
theorem wK:∀(W:List (List Nat)),∀w∈W,w.length≤(jn W).length
 |[],w,h=>by cases h
 |[v],w,h=>by rw[Zac.mp h];exact eD _
 |u::v::r,w,h=>by
  have e:(jn (u::v::r)).length=u.length+((jn (v::r)).length+1):=by
   rw[show jn (u::v::r)=u++32::jn (v::r)from rfl,qY,List.length_cons]
  rcases Zai.mp h with rfl |h
  ·omega
  ·have:=wK (v::r) w h
   omega
theorem wL:∀(W:List (List Nat)),W.length≤(jn W).length+1
 |[]=>zz9 _
 |[v]=>by simp
 |u::v::r=>by
  have e:(jn (u::v::r)).length=u.length+((jn (v::r)).length+1):=by
   rw[show jn (u::v::r)=u++32::jn (v::r)from rfl,qY,List.length_cons]
  have:=wL (v::r)
  simp only[Z4]at this ⊢
  omega
theorem wM:∀(W:List (List Nat)) (x:Sl),(∀w∈W,w.length≤3900)→(∃w∈W,∃a∈w,¬az a)→gn (bH 0) zA rY (W.map ag) [x]=some ("NoNails":Str)
 |[],x,_,h=>by obtain⟨w,h,_⟩:=h;cases h
 |w::W,x,hl,h=>by
  have t:bH 0 (ag w) [x]=some [.sh (ag w)]:=rfl
  by_cases hw:∀a∈w,az a
  ·have e1:rY [.sh (ag w)]=none:=sZ (rs:=[.sh (ag w)]) (ds:=[ag w]) rfl rfl (qS hw)
   have e2:zA [.sh (ag w)]=some (.sh (ag (av w)),[.sh (ag w)]):=aE (ss:=[.sh (ag w)]) rfl rfl (hU hw (hl w (jJ ..)))
   rw[gI,BM t e1 e2]
   refine wM W _ (fun v hv=>hl v (gW _ hv)) ?_
   obtain⟨v,hv,a,ha,n⟩:=h
   rcases Zai.mp hv with rfl |hv
   ·exact absurd (hw a ha) n
   ·exact⟨v,hv,a,ha,n⟩
  ·have hb:∃a∈w,¬az a:=Classical.byContradiction fun z=>hw fun a ha=>Classical.byContradiction fun n=>z ⟨a,ha,n⟩
   exact Dw (x:=("NoNails",[.sh (ag w)])) t (eY (rs:=[.sh (ag w)]) (ds:=[ag w]) rfl rfl (mQ hb))
theorem mY(hl:∀w∈W,w.length≤3900)(hn:W.length≤1000000)(h:∃w∈W,∃a∈w,¬az a):bW [.list (W.map ag)]=some ("NoRule":Str):=by
 have r:cM [.list (W.map ag)]=some ("NoNails":Str):=kQ (x:=("NoNails",_)) rfl ((BN _ (by rw[fw];exact hn)).trans (by rw[wM W _ hl h];rfl))
 have c:=eY (E:=[.sh (.list (W.map ag))]) (g:=af false (ae 0) am) (E1:=[.sh (.list (W.map ag))]) (rs:=[.sh (.list (W.map ag))]) (ds:=[.list (W.map ag)]) rfl rfl r
 refine kQ (x:=("NoRule",[.sh (.list (W.map ag))])) rfl ?_
 show su ["NoNails"] "NoRule" (cB cM (af false (ae 0) am)) _=_
 unfold su
 rw[show cI 1 [PyData.list (W.map ag)]=[.sh (.list (W.map ag))]from rfl,c]
 rfl
def Gv:iT:=aV (bM (iR (i0 .str) (ae 0)))
def Ih:iT:=iN (ao (BW false) false (pC (.str "")) (ae 1))
theorem Jx(E:List Sl):gG E=si (pN Gv (iP "NoRule")) (il (cg Gv e_ bh) (il (aP 1 (ij 0 (pC (.str " ")))) (si (pN Ih (iP "NoRule")) (il (cg Ih e_ bh) (cB bW (af false (ae 1) am)))))) E:=rfl
theorem tB(h:i0 .str d=some (.bool false)):a7 [d]=some ("NoRule":Str):=by
 have t:Gv [.sh d,.no]=some (true,[.sh d,.no]):=by
  unfold Gv aV bM iR
  simp only[ae,Z2,Z0,look,Sl.val,h,Z1,iX,Bool.not_false]
 exact kQ (x:=("NoRule",[.sh d,.no])) rfl ((Jx _).trans (sW ((sY t).trans rfl)))
theorem tD{t:List Nat}(hl:t.length≤3900)(h:∃a∈t,¬az a∧a≠32):a7 [ag t]=some ("NoRule":Str):=by
 obtain⟨W,e,j⟩:=BO t
 have e':Txt.split (⟨t.toArray⟩:Str) " "=W.map mj:=e
 have bad:∃w∈W,∃a∈w,¬az a:=by
  obtain⟨a,ha,n,m⟩:=h
  rw[←j]at ha
  obtain⟨w,hw,k⟩:=BP m W ha
  exact⟨w,hw,a,k,n⟩
 have lw:∀w∈W,w.length≤3900:=fun w hw=>by
  have:=wK W w hw
  rw[j]at this
  omega
 have lW:W.length≤1000000:=by
  have:=wL W
  rw[j]at this
  omega
 have t0:Gv [.sh (ag t),.no]=some (false,[.sh (ag t),.no]):=rfl
 have s0:cg Gv e_ bh [.sh (ag t),.no]=some ([.sh (ag t),.no],.nx):=jA t0 rfl
 have l1:((Str.ofString " ").length == 0)=false:=by decide+kernel
 have l2:(⟨t.toArray⟩:Str).length≤100000:=by rw[ef];omega
 have sp:ij 0 (pC (.str " ")) [.sh (ag t),.no]=some (.ow (W.map ag),[.sh (ag t),.no]):=by
  have m:(W.map mj).map PyData.str=W.map ag:=by rw[List.map_map];rfl
  simp only[ij,ag,Z2,pC,Z0,look,Sl.val,l1,l2,and_self,if_true,e',m]
 have s1:aP 1 (ij 0 (pC (.str " "))) [.sh (ag t),.no]=some ([.sh (ag t),.ow (W.map ag)],.nx):=gV sp (show 1 < 2 by decide)
 have t1:Ih [.sh (ag t),.ow (W.map ag)]=some ((W.map mj).contains "",[.sh (ag t),.ow (W.map ag)]):=by
  have so:=ml W
  simp! [Ih,so]
 refine kQ (x:=("NoRule",[.sh (ag t),.ow (W.map ag)])) rfl ((Jx _).trans ((sX (BJ t0)).trans ((Eb s0).trans ((Eb s1).trans ?_))))
 cases hb:(W.map mj).contains "" with
 |true=>
  rw[hb]at t1
  exact sW ((sY t1).trans rfl)
 |false=>
  rw[hb]at t1
  exact(sX (BJ t1)).trans ((Eb (jA t1 rfl)).trans (eY (rs:=[.al 1]) (ds:=[.list (W.map ag)]) rfl rfl (mY lw lW bad)))
theorem HC:aC "NoNails" (.int 1)=some (.sh (.bool true)):=by kernel_rfl
theorem HE:aC "NoRule" (.int 2)=some (.sh (.bool true)):=by kernel_rfl
theorem Dy:aC "TooMany" (.int 8)=some (.sh (.bool true)):=by kernel_rfl
def sgs:List Nat:=[33,34,35,36,38,39,40,41,42,43,44,45,46,47,48,49,50,51,52,53,54,55,56,57,58,59,60,61,62,63,64,65,66,67,68,69,70,71,72,73,74,75,76,77,78,79,80,81,82,83,84,85,86,87,88,89,90,91,92,93,94,95,96,123,124,125,126,10,9]
theorem HF:(Str.ofString "!\"#$&'()*+,-./0123456789:;<=>?@ABCDEFGHIJKLMNOPQRSTUVWXYZ[\\]^_`{|}~\n\t")=⟨sgs.toArray⟩:=by decide+kernel
theorem Dz:∀a∈sgs,¬az a∧a≠32:=by unfold az;decide
theorem wN(z:Int):∃a,c_ [.int z]=some (.sh (b0 a))∧¬az a∧a≠32:=by
 have m0:=tJ z (show(69:Int)≠0 by decide)
 have m1:=wS z (show(0:Int) < 69 by decide)
 obtain⟨k,hk⟩:=Int.eq_ofNat_of_zero_le m0
 have ln:sgs.length=69:=by decide
 obtain⟨a,e⟩:∃a,sgs[k]? =some a:=⟨sgs[k]'(by omega),oU _⟩
 refine⟨a,?_,Dz a (List.mem_of_getElem? e)⟩
 have l:(⟨sgs.toArray⟩:Str).length=69:=by rw[ef];decide
 have l2:(69:Nat)≤1000000:=by decide
 have tl:sgs.toArray.toList=sgs:=by simp
 have at_:atI sgs (z % 69)=some a:=by rw[hk];exact(i_ _ k).trans e
 have p:(0:Int) < 69:=by decide
 simp! [c_,iz,HF,b0,l,l2,Int.cast_ofNat_Int,p,tl,at_]
theorem DA{L:List PyData}{z:Int}(hn:L.length=n)(h0:0 < n){P:PyData→Prop}(h:∀d∈L,P d):∃d,atI L (z % (n:Int))=some d∧P d:=by
 have m0:=tJ z (show(n:Int)≠0 by omega)
 have m1:=wS z (show(0:Int) < n by omega)
 obtain⟨k,hk⟩:=Int.eq_ofNat_of_zero_le m0
 have e:L[k]? =some (L[k]'(by omega)):=oU _
 refine⟨_,?_,h _ (List.getElem_mem (by omega:k < L.length))⟩
 rw[hk]
 exact(i_ _ k).trans e
theorem HG(z zt zk w:Int) (t u v:List Nat) (a:Nat) (hw:z % 8=w) (h3:w < 3) (et:atI [PyData.str "ab bc ca",.str "a",.str "abc",.str "q w e"] (z / 8 % 4)=some (ag t)) (lt:t.length≤1000) (hN:(t.length:Int)+1=zt) (n0:0 < zt) (hk:z / 32 % zt=zk) (es:c_ [.int (z / 5)]=some (.sh (b0 a))) (eu:Txt.slice (⟨t.toArray⟩:Str) none (some zk)=⟨u.toArray⟩) (ev:Txt.slice (⟨t.toArray⟩:Str) (some zk) none=⟨v.toArray⟩) (l1:t.length≤1000000) (l2:u.length+1≤1000000) (l3:u.length+1+v.length≤1000000) (d8:eW 8=true) (d32:eW 32=true) (d5:eW 5=true):aM [.int z]=some (.sh (ag (u++a::v))):=by
 have w1:(⟨#[a]⟩:Str)=⟨[a].toArray⟩:=rfl
 have e1:(⟨u.toArray⟩:Str)++(⟨#[a]⟩:Str)=⟨(u++[a]).toArray⟩:=by rw[w1,oO]
 have e2:(⟨(u++[a]).toArray⟩:Str)++(⟨v.toArray⟩:Str)=⟨(u++a::v).toArray⟩:=by rw[oO];simp
 have ls:(⟨#[a]⟩:Str).length=1:=rfl
 have lu:(u++[a]).length=u.length+1:=by simp
 unfold ag at et
 unfold b0 at es
 simp! [aM,cO,et,ef,l1,hN,n0,d8,d32,d5,hw,h3,hk,es,eu,ev,ls,l2,e1,lu,l3,e2,ag,Int.reduceLT]
def Gw(x:Str):List PyData:=[.str ((" ":Str)++x),.str (x++(" ":Str)),.str (Txt.replace x " " "  "++("  b":Str)),.str "",.str " ",.str "a  b"]
structure NorX (x:Str) (t:List Nat):Prop where
 tx:x=⟨t.toArray⟩
 len:t.length≤8
 l1:(Str.ofString " ").length+x.length≤1000000
 l2:x.length+(Str.ofString " ").length≤1000000
 l3:x.length+(x.length+1)*(Str.ofString "  ").length≤100000
 l4:(Txt.replace x " " "  ").length+(Str.ofString "  b").length≤1000000
 bad:∀d∈Gw x,dP d=true∧a7 [d]=some ("NoRule":Str)
theorem nh(h:[a7 [.str ((" ":Str)++x)],a7 [.str (x++(" ":Str))],a7 [.str (Txt.replace x " " "  "++("  b":Str))]]=[some ("NoRule":Str),some "NoRule",some "NoRule"]):∀d∈Gw x,dP d=true∧a7 [d]=some ("NoRule":Str):=fun d hd=>by
 simp only[List.cons.injEq,and_true]at h
 unfold Gw at hd
 simp only[Zai,List.not_mem_nil,or_false]at hd
 rcases hd with rfl |rfl |rfl |rfl |rfl |rfl
 ·exact⟨rfl,h.1⟩
 ·exact⟨rfl,h.2.1⟩
 ·exact⟨rfl,h.2.2⟩
 ·exact⟨rfl,by kernel_rfl⟩
 ·exact⟨rfl,by kernel_rfl⟩
 ·exact⟨rfl,by kernel_rfl⟩
theorem DB(z:Int):∃x t,atI [PyData.str "ab bc ca",.str "a",.str "abc",.str "q w e"] (z % 4)=some (.str x)∧NorX x t:=by
 have m0:=tJ z (show(4:Int)≠0 by decide)
 have m1:=wS z (show(0:Int) < 4 by decide)
 have c:z % 4=0∨z % 4=1∨z % 4=2∨z % 4=3:=by omega
 rcases c with c |c |c |c <;> rw[c]
 ·exact⟨_,[97,98,32,98,99,32,99,97],rfl,by decide+kernel,by decide,by decide+kernel,by decide+kernel,by decide+kernel,by decide+kernel,nh (by kernel_rfl)⟩
 ·exact⟨_,[97],rfl,by decide+kernel,by decide,by decide+kernel,by decide+kernel,by decide+kernel,by decide+kernel,nh (by kernel_rfl)⟩
 ·exact⟨_,[97,98,99],rfl,by decide+kernel,by decide,by decide+kernel,by decide+kernel,by decide+kernel,by decide+kernel,nh (by kernel_rfl)⟩
 ·exact⟨_,[113,32,119,32,101],rfl,by decide+kernel,by decide,by decide+kernel,by decide+kernel,by decide+kernel,by decide+kernel,nh (by kernel_rfl)⟩
theorem HH(z zt w:Int) (x:Str) (t:List Nat) (d:PyData) (h:NorX x t) (hw:z % 8=w) (h3:¬w < 3) (h6:w < 6) (et:atI [PyData.str "ab bc ca",.str "a",.str "abc",.str "q w e"] (z / 8 % 4)=some (.str x)) (l0:x.length≤1000000) (hN:(x.length:Int)+1=zt) (n0:0 < zt) (e6:atI (Gw x) (z / 8 % 6)=some d) (fd:dP d=true) (d8:eW 8=true) (d32:eW 32=true):aM [.int z]=some (.sh d):=by
 have l1:=h.l1
 have l2:=h.l2
 have l3:=h.l3
 have l4:=h.l4
 unfold Gw at e6
 simp! [aM,cO,et,l0,hN,n0,d8,d32,hw,h3,h6,Int.reduceLT,l1,l2,wm,l3,l4,e6,fd]
theorem HI(z zt w:Int) (x:Str) (d:PyData) (hw:z % 8=w) (h3:¬w < 3) (h6:¬w < 6) (et:atI [PyData.str "ab bc ca",.str "a",.str "abc",.str "q w e"] (z / 8 % 4)=some (.str x)) (l0:x.length≤1000000) (hN:(x.length:Int)+1=zt) (n0:0 < zt) (e6:atI [PyData.none,.int 3,.bool true,.list [.str "a",.str "b"],.tuple [.str "a"],.dict []] (z / 8 % 6)=some d) (d8:eW 8=true) (d32:eW 32=true):∃r,aM [.int z]=some r∧(r=.sh d∨r=.br d):=by
 by_cases hf:dP d=true
 ·refine⟨.sh d,?_,.inl rfl⟩
  simp! [aM,cO,FP,et,l0,hN,n0,d8,d32,hw,h3,h6,Int.reduceLT,e6,hf]
 ·refine⟨.br d,?_,.inr rfl⟩
  simp! [aM,cO,FP,et,l0,hN,n0,d8,d32,hw,h3,h6,Int.reduceLT,e6,hf]
theorem oR(x:Str)(l u:Option Int):Txt.slice x l u=PySem.StrLaws.sliceText x l u:=rfl
theorem vE(w:List Nat)(i:Nat)(h:i≤w.length):Txt.slice (⟨w.toArray⟩:Str) (some (i:Int)) none=⟨(w.drop i).toArray⟩:=by
 have e:(⟨w.toArray⟩:Str).cps.toList=w:=by simp
 rw[oR,PySem.StrLaws.sliceText_from ⟨by omega,by rw[e];omega⟩,e]
 rw[show((w.length:Int) - (i:Int)).toNat=w.length - i by omega,Int.toNat_natCast,List.take_of_length_le (by simp)]
theorem iJ(w:List Nat)(i:Nat)(h:i≤w.length):Txt.slice (⟨w.toArray⟩:Str) none (some (i:Int))=⟨(w.take i).toArray⟩:=by
 have e:(⟨w.toArray⟩:Str).cps.toList=w:=by simp
 have ln:(⟨w.toArray⟩:Str).length=w.length:=by show w.toArray.size=_;simp
 rw[oR,PySem.StrLaws.sliceText_to ⟨by omega,by rw[e];omega⟩,e,Int.sub_zero,Int.toNat_natCast,List.drop_zero]
theorem Gc(z:Int):∃r d,aM [.int z]=some r∧(r=.sh d∨r=.br d)∧a7 [d]=some ("NoRule":Str):=by
 obtain⟨x,t,et,hx⟩:=DB (z / 8)
 have lx:x.length=t.length:=by rw[hx.tx,ef]
 have l8:=hx.len
 by_cases h3:z % 8 < 3
 ·obtain⟨a,es,na,n32⟩:=wN (z / 5)
  rw[hx.tx]at et
  have m0:=tJ (z / 32) (show((t.length:Int)+1)≠0 by omega)
  have m1:=wS (z / 32) (show(0:Int) < (t.length:Int)+1 by omega)
  obtain⟨j,hj⟩:=Int.eq_ofNat_of_zero_le m0
  have e:=HG z _ _ _ t (t.take j) (t.drop j) a rfl h3 et (by omega) rfl (by omega) hj es (iJ t j (by omega)) (vE t j (by omega)) (by omega) (by rw[oS];omega) (by rw[oS,List.length_drop];omega) (by decide) (by decide) (by decide)
  exact⟨_,_,e,.inl rfl,tD (by simp only[qY,oS,Z4,List.length_drop];omega) ⟨a,by simp,na,n32⟩⟩
 by_cases h6:z % 8 < 6
 ·obtain⟨d,e6,fd,rd⟩:=DA (L:=Gw x) (z:=z / 8) (n:=6) rfl (by decide) hx.bad
  exact⟨_,d,HH z _ _ x t d hx rfl h3 h6 et (by omega) rfl (by omega) e6 fd (by decide) (by decide),.inl rfl,rd⟩
 ·obtain⟨d,e6,rd⟩:=DA (L:=[PyData.none,.int 3,.bool true,.list [.str "a",.str "b"],.tuple [.str "a"],.dict []]) (z:=z / 8) (n:=6) rfl (by decide) (P:=fun d=>a7 [d]=some ("NoRule":Str)) fun d hd=>by
   simp only[Zai,List.not_mem_nil,or_false]at hd
   rcases hd with rfl |rfl |rfl |rfl |rfl |rfl <;> exact tB rfl
  obtain⟨r,e,k⟩:=HI z _ _ x d rfl h3 h6 et (by omega) rfl (by omega) e6 (by decide) (by decide)
  exact⟨r,d,e,k,rd⟩
theorem HJ:(Str.ofString "kmn")=⟨[107,109,110].toArray⟩:=by decide+kernel
theorem Jj:(Str.ofString "op")=⟨[111,112].toArray⟩:=by decide+kernel
theorem HK(z i j:Int)(u v:List Nat)(a:Nat)(h:z % 3 < 2)(hi:z / 3 % 4=i)(hj:z / 5 % 3=j)(es:c_ [.int (z / 12)]=some (.sh (b0 a)))(eu:Txt.slice (⟨[107,109,110].toArray⟩:Str) none (some i)=⟨u.toArray⟩)(ev:Txt.slice (⟨[111,112].toArray⟩:Str) none (some j)=⟨v.toArray⟩)(k1:(⟨[107,109,110].toArray⟩:Str).length≤1000000)(k2:(⟨[111,112].toArray⟩:Str).length≤1000000)(l2:u.length+1≤1000000)(l3:u.length+1+v.length≤1000000)(d3:eW 3=true)(d12:eW 12=true)(d5:eW 5=true):aR [.int z]=some (.sh (ag (u++a::v))):=by
 have w1:(⟨#[a]⟩:Str)=⟨[a].toArray⟩:=rfl
 have e1:(⟨u.toArray⟩:Str)++(⟨#[a]⟩:Str)=⟨(u++[a]).toArray⟩:=by rw[w1,oO]
 have e2:(⟨(u++[a]).toArray⟩:Str)++(⟨v.toArray⟩:Str)=⟨(u++a::v).toArray⟩:=by rw[oO];simp
 have ls:(⟨#[a]⟩:Str).length=1:=rfl
 have lu:(u++[a]).length=u.length+1:=by simp
 unfold b0 at es
 simp! [aR,cX,HJ,Jj,h,hi,hj,es,eu,ev,k1,k2,ef,ls,l2,e1,lu,l3,e2,d3,d12,d5,ag,Int.reduceLT]
theorem HL(z:Int) (d:PyData) (h:¬z % 3 < 2) (e6:atI [PyData.none,.int 1,.bool true,.list [.str "a"],.tuple [.str "a"],.dict [],.bool false] (z / 3 % 7)=some d) (d3:eW 3=true):∃r,aR [.int z]=some r∧(r=.sh d∨r=.br d):=by
 by_cases hf:dP d=true
 ·refine⟨.sh d,?_,.inl rfl⟩
  simp! [aR,cX,FP,h,d3,Int.reduceLT,e6,hf]
 ·refine⟨.br d,?_,.inr rfl⟩
  simp! [aR,cX,FP,h,d3,Int.reduceLT,e6,hf]
theorem vF(h:i0 .str d=some (.bool false)):bK [d]=some ("NoNails":Str):=by
 have t:aV (bM (iR (i0 .str) (ae 0))) [.sh d,.no]=some (true,[.sh d,.no]):=by
  unfold aV bM iR
  simp only[ae,Z2,Z0,look,Sl.val,h,Z1,iX,Bool.not_false]
 exact kQ (x:=("NoNails",[.sh d,.no])) rfl (sW ((sY t).trans rfl))
theorem Ge(z:Int):∃r d,aR [.int z]=some r∧(r=.sh d∨r=.br d)∧bK [d]=some ("NoNails":Str):=by
 by_cases h:z % 3 < 2
 ·obtain⟨a,es,na,_⟩:=wN (z / 12)
  have m0:=tJ (z / 3) (show(4:Int)≠0 by decide)
  have m1:=wS (z / 3) (show(0:Int) < 4 by decide)
  obtain⟨i,hi⟩:=Int.eq_ofNat_of_zero_le m0
  have m2:=tJ (z / 5) (show(3:Int)≠0 by decide)
  have m3:=wS (z / 5) (show(0:Int) < 3 by decide)
  obtain⟨j,hj⟩:=Int.eq_ofNat_of_zero_le m2
  have i4:i≤3:=by omega
  have j3:j≤2:=by omega
  have e:=HK z _ _ _ _ a h hi hj es (iJ [107,109,110] i (by simpa using i4)) (iJ [111,112] j (by simpa using j3)) (by decide+kernel) (by decide+kernel) (by rw[oS];simp;omega) (by rw[oS,oS];simp;omega) (by decide) (by decide) (by decide)
  exact⟨_,_,e,.inl rfl,mQ ⟨a,by simp,na⟩⟩
 ·obtain⟨d,e6,rd⟩:=DA (L:=[PyData.none,.int 1,.bool true,.list [.str "a"],.tuple [.str "a"],.dict [],.bool false]) (z:=z / 3) (n:=7) rfl (by decide) (P:=fun d=>bK [d]=some ("NoNails":Str)) fun d hd=>by
   simp only[Zai,List.not_mem_nil,or_false]at hd
   rcases hd with rfl |rfl |rfl |rfl |rfl |rfl |rfl <;> exact vF rfl
  obtain⟨r,e,k⟩:=HL z d h e6 (by decide)
  exact⟨r,d,e,k,rd⟩
theorem DC(i:Int):cC [.int i]=some (.sh (.bool true)):=by simp! [cC,iv]
def wO(m:Nat)(d:PyData):Prop:=cC [d]=some (.sh (.bool false))∨∃i:Int,d=.int i∧(i < 1∨(m:Int) < i)
theorem HM(z m:Int)(h:z % 3=0)(d3:eW 3=true):aI [.int z,.int m]=some (.sh (.int (m+1+z / 3 % 1000000000000000000000000000000))):=by
 dsimp! [aI,bU,h,d3,jV,decide_true]
theorem HN(z m:Int)(h:z % 3=1)(d3:eW 3=true):aI [.int z,.int m]=some (.sh (.int (0 - z / 3 % 1000000000000000000000000000000))):=by
 have q:¬((1:Int)=0):=by decide
 dsimp! [aI,bU,h,d3,jV,decide_true,q,decide_false]
theorem HP(z m w:Int) (d:PyData) (hw:z % 3=w) (h0:w≠0) (h1:w≠1) (e:atI [PyData.bool true,.none,.str "1",.int 0,.int (m+1),.list [.int 1],.int (-1)] (z / 3 % 7)=some d) (d3:eW 3=true):∃r,aI [.int z,.int m]=some r∧(r=.sh d∨r=.br d):=by
 by_cases hf:dP d=true
 ·refine⟨.sh d,?_,.inl rfl⟩
  dsimp! [aI,bU,hw,h0,h1,d3,jV,decide_false,e,hf]
 ·refine⟨.br d,?_,.inr rfl⟩
  dsimp! [aI,bU,hw,h0,h1,d3,jV,decide_false,e,hf]
theorem BQ(z:Int)(m:Nat):∃r d,aI [.int z,.int (m:Int)]=some r∧(r=.sh d∨r=.br d)∧wO m d:=by
 have m0:=tJ (z / 3) (show(1000000000000000000000000000000:Int)≠0 by decide)
 by_cases h0:z % 3=0
 ·exact⟨_,_,HM z m h0 (by decide),.inl rfl,.inr ⟨_,rfl,.inr (by omega)⟩⟩
 by_cases h1:z % 3=1
 ·exact⟨_,_,HN z m h1 (by decide),.inl rfl,.inr ⟨_,rfl,.inl (by omega)⟩⟩
 ·obtain⟨d,e,n⟩:=DA (L:=[PyData.bool true,.none,.str "1",.int 0,.int ((m:Int)+1),.list [.int 1],.int (-1)]) (z:=z / 3) (n:=7) rfl (by decide) (P:=wO m) fun d hd=>by
   simp only[Zai,List.not_mem_nil,or_false]at hd
   rcases hd with rfl |rfl |rfl |rfl |rfl |rfl |rfl
   ·exact .inl (by kernel_rfl)
   ·exact .inl (by kernel_rfl)
   ·exact .inl (by kernel_rfl)
   ·exact .inr ⟨_,rfl,.inl (by decide)⟩
   ·exact .inr ⟨_,rfl,.inr (by omega)⟩
   ·exact .inl (by kernel_rfl)
   ·exact .inr ⟨_,rfl,.inl (by decide)⟩
  obtain⟨r,e2,k⟩:=HP z m _ d rfl h0 h1 e (by decide)
  exact⟨r,d,e2,k,n⟩
def zB:iT:=qr (aV (bM (aj cC (af false (ae 1) am)))) (aV (iN (iW (gK .le) (gK .le) false false (pC (.int 1)) (ae 1) (j5 j6 (af false (ae 2) am)))))
theorem Gf(x0:Sl){w:List Nat}(hw:w.length≤1000000)(h:wO w.length d):zB [x0,.sh d,.sh (ag w)]=some (true,[x0,.sh d,.sh (ag w)]):=by
 rcases h with h |⟨i,rfl,h⟩
 ·have c:aj cC (af false (ae 1) am) [x0,.sh d,.sh (ag w)]=some (.sh (.bool false),[x0,.sh d,.sh (ag w)]):=aE (ss:=[.sh d]) rfl rfl h
  simp only[zB,qr,aV,bM,c,Z0,Sl.val,iX,Z1,hW]
 ·have c:aj cC (af false (ae 1) am) [x0,.sh (.int i),.sh (ag w)]=some (.sh (.bool true),[x0,.sh (.int i),.sh (ag w)]):=aE (ss:=[.sh (.int i)]) rfl rfl (DC i)
  have l:=ef w
  by_cases h1:(1:Int)≤i
  ·have h2:¬(i≤(w.length:Int)):=by omega
   simp only[zB,qr,aV,bM,c,Z0,Sl.val,iX,Z1,hW]
   simp! [ag,h1,h2,l,hw]
  ·simp only[zB,qr,aV,bM,c,Z0,Sl.val,iX,Z1,hW]
   simp! [ag,h1,l,hw]
theorem ni{w:List Nat}(h:10 < w.length)(hl:w.length≤1000):bt [ag w]=some ("TooMany":Str):=by
 have t:iN (ao (kR (gK .gt)) false (j5 j6 (af false (ae 0) am)) (pC (.int 10))) [.sh (ag w)]=some (true,[.sh (ag w)]):=by
  have l:=ef w
  have l2:w.length≤1000000:=by omega
  have g:(10:Int) < (w.length:Int):=by omega
  simp! [ag,l,l2,g]
 exact kQ (x:=("TooMany",[.sh (ag w)])) rfl ((sY t).trans rfl)
theorem Gg{w:List Nat}(h:w.length≤10):bt [ag w]=none:=by
 have t:iN (ao (kR (gK .gt)) false (j5 j6 (af false (ae 0) am)) (pC (.int 10))) [.sh (ag w)]=some (false,[.sh (ag w)]):=by
  have l:=ef w
  have l2:w.length≤1000000:=by omega
  have g:¬((10:Int) < (w.length:Int)):=by omega
  simp! [ag,l,l2,g]
 exact Gb (BJ t)
theorem Jy(E:List Sl):gw E=si (cB bK (af false (ae 0) am)) (il (aP 2 (aj b9 (af false (ae 0) am))) (si (cB bt (af false (ae 2) am)) (il (gh (aj aN (af false (ae 2) am))) (pN zB (iP "NoRule"))))) E:=rfl
theorem Gh{n:PyData} (h:bK [d]=some ("NoNails":Str)):cE [d,n]=some ("NoNails":Str):=
 kQ (x:=("NoNails",[.sh d,.sh n,.no])) rfl ((Jy _).trans (sW (eY (rs:=[.sh d]) (ds:=[d]) rfl rfl h)))
theorem Ec{w:List Nat}{n:PyData}(h:∀a∈w,az a)(hl:w.length≤100):gw [.sh (ag w),.sh n,.no]=si (cB bt (af false (ae 2) am)) (il (gh (aj aN (af false (ae 2) am))) (pN zB (iP "NoRule"))) [.sh (ag w),.sh n,.sh (ag (av w))]:=by
 have c:aj b9 (af false (ae 0) am) [.sh (ag w),.sh n,.no]=some (.sh (ag (av w)),[.sh (ag w),.sh n,.no]):=aE (ss:=[.sh (ag w)]) rfl rfl (hU h (by omega))
 have s:aP 2 (aj b9 (af false (ae 0) am)) [.sh (ag w),.sh n,.no]=some ([.sh (ag w),.sh n,.sh (ag (av w))],.nx):=gU (i:=2) c (show 2 < 3 by decide)
 rw[Jy,sX (sZ (rs:=[.sh (ag w)]) (E1:=[.sh (ag w),.sh n,.no]) (ds:=[ag w]) rfl rfl (qS h)),Eb s]
theorem DD{w:List Nat}{n:PyData}(h:∀a∈w,az a)(hl:w.length≤100)(hm:10 < (av w).length):cE [ag w,n]=some ("TooMany":Str):=
 kQ (x:=("TooMany",[.sh (ag w),.sh n,.sh (ag (av w))])) rfl ((Ec h hl).trans (sW (eY (rs:=[.sh (ag (av w))]) (ds:=[ag (av w)]) rfl rfl (ni hm (by have:=j1 w;have:(av w).length≤26:=lL (List.length_filter_le _ _) (by simp);omega)))))
theorem Gi{w:List Nat}{n:PyData}(h:∀a∈w,az a)(hl:w.length≤100)(hm:(av w).length≤10)(hn:wO (av w).length n):cE [ag w,n]=some ("NoRule":Str):=by
 have c:aj aN (af false (ae 2) am) [.sh (ag w),.sh n,.sh (ag (av w))]=some (.sh .none,[.sh (ag w),.sh n,.sh (ag (av w))]):=aE (ss:=[.sh (ag (av w))]) rfl rfl (fu hm)
 exact kQ (x:=("NoRule",[.sh (ag w),.sh n,.sh (ag (av w))])) rfl ((Ec h hl).trans ((sX (sZ (rs:=[.sh (ag (av w))]) (E1:=[.sh (ag w),.sh n,.sh (ag (av w))]) (ds:=[ag (av w)]) rfl rfl (Gg hm))).trans ((Eb (m_ c)).trans ((sY (Gf _ (by omega) hn)).trans rfl))))
theorem Gj{r:PyData} (h:bK [d]=some ("NoNails":Str)):g9 [r,d]=some ("NoNails":Str):=
 kQ (x:=("NoNails",[.sh r,.sh d])) rfl (eY (rs:=[.sh d]) (ds:=[d]) rfl rfl h)
theorem Ed(h:∀w∈W,∀a∈w,az a)(fl:W.flatten.length≤3900):aH [.list (W.map ag)]=some (.sh (ag (av W.flatten))):=by
 have e:=hU (w:=W.flatten) (fun y hy=>by
  obtain⟨v,hv,hy⟩:=List.mem_flatten.mp hy
  exact h v hv y hy) fl
 have l:=BF W
 have l2:W.flatten.length≤1000000:=by omega
 have j:=Dr W
 have a:fB "" (ae 0) [.sh (.list (W.map ag))]=some (.sh (.str ⟨W.flatten.toArray⟩),[.sh (.list (W.map ag))]):=by
  simp only[fB,iR,rP,ae,Z2,Z0,look,Sl.val,ml,l,l2,if_true,Z1,j]
 have b:aj b9 (af false (fB "" (ae 0)) am) [.sh (.list (W.map ag))]=some (.sh (ag (av W.flatten)),[.sh (.list (W.map ag))]):=aE (ss:=[.sh (.str ⟨W.flatten.toArray⟩)]) (Ds a) rfl e
 have fx:dP (ag (av W.flatten))=true:=rfl
 simp only[aH,fq,gB,xM,cI,bc,b,Z0,Z1,fA,fU,fx,Z4,Z5,Nat.sub_self,List.replicate,gI,List.map_nil,tL,Nat.reduceAdd,hW]
def aS(A:List Nat):List (List Nat):=A.map fun a=>[a]
theorem mw(A:List Nat):(aS A).map ag=A.map b0:=by unfold aS;rw[List.map_map];rfl
theorem my:∀A:List Nat,(aS A).flatten=A
 |[]=>rfl
 |a::A=>by
  show[a]++(aS A).flatten=_
  rw[my A]
  rfl
theorem sgl_mem{A w:List Nat}:w∈aS A↔∃a∈A,w=[a]:=by
 unfold aS
 rw[Zaz]
 exact⟨fun⟨a,h,e⟩=>⟨a,h,e.symm⟩,fun⟨a,h,e⟩=>⟨a,h,e.symm⟩⟩
theorem iK{A:List Nat}(h:∀a∈A,az a):∀w∈aS A,∀a∈w,az a:=fun w hw a ha=>by
 obtain⟨b,hb,rfl⟩:=sgl_mem.mp hw
 rw[Zac.mp ha]
 exact h b hb
theorem qT{A:List Nat}(h:∀a∈A,az a)(l:A.length≤60):Txs (aS A):=⟨iK h,fun w hw=>by
 obtain⟨b,_,rfl⟩:=sgl_mem.mp hw
 simp,by unfold aS;rw[fw];exact l⟩
theorem qU{A:List Nat}(s:NhFam.Srt A)(n:A≠[]):IsR (aS A):=⟨fun z=>n (List.map_eq_nil_iff.mp z),fun w hw=>by
 obtain⟨b,_,rfl⟩:=sgl_mem.mp hw
 exact⟨by simp,by unfold NhFam.Srt;simp⟩,by
 unfold aS
 rw[List.pairwise_map]
 exact List.Pairwise.imp (fun {a b} h=>⟨fun z=>by
  have:=Zac.mp (z a (by simp))
  omega,NhSG.ltKy_iff.mpr (.inr ⟨rfl,List.Lex.rel h⟩)⟩) s⟩
theorem zC{A:List Nat}(h:∀a∈A,az a)(s:NhFam.Srt A)(n:A≠[]):NhFam.d7 (eX (aS A))=aS A:=mv (iK h) (qU s n)
theorem Srt.nd{V:List Nat}(h:NhFam.Srt V):V.Nodup:=h.imp fun h=>eU h
theorem p7:∀(V:List Nat) (acc:List (List Nat)),acc.Nodup→(∀u∈acc,∀a∈V,a∉u)→V.Nodup→(V.foldl (fun acc a=>acc++acc.map (· ++[a])) acc).Nodup
 |[],acc,n,_,_=>n
 |a::V,acc,n,h,v=>by
  rw[List.foldl_cons]
  have va:=List.nodup_cons.mp v
  refine p7 V _ ?_ ?_ va.2
  ·rw[List.nodup_append]
   refine⟨n,?_,?_⟩
   ·unfold List.Nodup
    rw[List.pairwise_map]
    exact n.imp fun h z=>h (List.append_cancel_right z)
   ·intro u hu w hw e
    obtain⟨x,_,rfl⟩:=Zaz.mp hw
    exact h u hu a (jJ ..) (e▸by simp)
  ·intro u hu b hb
   rcases Zaf.mp hu with q |q
   ·exact h u q b (gW _ hb)
   ·obtain⟨x,hx,rfl⟩:=Zaz.mp q
    intro z
    rcases Zaf.mp z with z |z
    ·exact h x hx b (gW _ hb) z
    ·exact va.1 (Zac.mp z▸hb)
theorem DE{V:List Nat}(h:NhFam.Srt V):(NhFam.iu V).Nodup:=p7 V [[]] (by simp) (fun u hu a _=>by rw[Zac.mp hu];simp) (Srt.nd h)
theorem tE{V:List Nat}{p:List Nat→Bool}:∀{L:List (List Nat)},L.Nodup→V∈L→p V=true→(∀w∈L,p w=true→w=V)→L.filter p=[V]
 |[],_,h,_,_=>by cases h
 |w::L,n,h,q,u=>by
  have nn:=List.nodup_cons.mp n
  by_cases e:w=V
  ·subst e
   rw[List.filter_cons,if_pos q,List.filter_eq_nil_iff.mpr fun v hv k=>nn.1 (u v (gW _ hv) k▸hv)]
  ·rw[List.filter_cons,if_neg fun k=>e (u w (jJ ..) k)]
   exact tE nn.2 ((Zai.mp h).resolve_left fun z=>e z.symm) q fun v hv=>u v (gW _ hv)
structure Ten (V:List Nat):Prop where
 srt:NhFam.Srt V
 az:∀a∈V,az a
 len:V.length≤10
theorem Ten.u{V:List Nat}(h:Ten V):Uni V:=⟨h.srt,h.az,by have:=h.len;omega⟩
theorem Ten.self{V:List Nat}(h:Ten V):NhFam.Sub V V:=⟨h.srt,NhFam.le.refl V⟩
theorem Ten.mem{V:List Nat}(h:Ten V):V∈NhFam.iu V:=(NhFam.sM h.srt).mpr h.self
theorem Ten.one{V:List Nat}(h:Ten V){p:List Nat→Bool}(q:p V=true)(u:∀w,NhFam.Sub V w→p w=true→NhFam.le V w):(NhFam.iu V).filter p=[V]:=tE (DE h.srt) h.mem q fun w hw k=>by
 have s:=(NhFam.sM h.srt).mp hw
 exact s.1.ext h.srt s.2 (u w s k)
theorem Ten.lst{V:List Nat}(h:Ten V)(n:V≠[]):bq [.list ([V].map ag)]=some (.ow ([V].map ag)):=by
 have e:=jE (F:=[V]) (vC h.u (fun v hv=>by rw[Zac.mp hv];exact h.self) (by simp))
 have i:NhFam.d7 (eX [V])=[V]:=mv (fun w hw=>by rw[Zac.mp hw];exact h.az) ⟨by simp,fun w hw=>by rw[Zac.mp hw];exact⟨n,h.srt⟩,by simp⟩
 rw[qQ (fun w hw=>by rw[Zac.mp hw];exact h.az) (fun w hw=>by rw[Zac.mp hw];exact h.srt)]at i
 rw[i]at e
 exact e
theorem HQ{V:List Nat}(h:∀a∈V,az a)(s:NhFam.Srt V)(n:V≠[])(l:V.length≤60):aP 1 (c7 [none] (b_ (aj bi (af false (ae 0) am))) bw dl bx) [.sh (.list ((aS V).map ag)),.no,.no]=some ([.sh (.list ((aS V).map ag)),.ow ((aS V).map aU),.no],.nx):=by
 have pl:=ke abc_uni (qT h l).wrt
 rw[zC h s n]at pl
 have c1:aj bi (af false (ae 0) am) [.sh (.list ((aS V).map ag)),.no,.no]=some (.ow ((aS V).map ag),[.sh (.list ((aS V).map ag)),.no,.no]):=aE (ss:=[.sh (.list ((aS V).map ag))]) rfl rfl pl
 have i1:b_ (aj bi (af false (ae 0) am)) [.sh (.list ((aS V).map ag)),.no,.no]=some ((aS V).map ag,[.sh (.list ((aS V).map ag)),.no,.no]):=by
  unfold b_
  rw[c1]
  rfl
 exact gV (iI i1 (mn _ _) (mi _) (by rw[fw];have:=(qT h l).len;omega)) (show 1 < 3 by decide)
theorem HR{V:List Nat}(h:∀a∈V,az a)(s:NhFam.Srt V)(l:V.length≤60):aP 2 (aj aH (af false (ae 0) am)) [.sh (.list ((aS V).map ag)),.ow ((aS V).map aU),.no]=some ([.sh (.list ((aS V).map ag)),.ow ((aS V).map aU),.sh (ag V)],.nx):=by
 have e:=Ed (iK h) (by rw[my];omega)
 rw[my,sV s h]at e
 have c:aj aH (af false (ae 0) am) [.sh (.list ((aS V).map ag)),.ow ((aS V).map aU),.no]=some (.sh (ag V),[.sh (.list ((aS V).map ag)),.ow ((aS V).map aU),.no]):=aE (ss:=[.sh (.list ((aS V).map ag))]) rfl rfl e
 exact gU (i:=2) c (show 2 < 3 by decide)
theorem DF{V:List Nat}(h:∀a∈V,az a)(s:NhFam.Srt V)(l:V.length≤60)(m:10 < V.length):dI [.list (V.map b0)]=some ("TooMany":Str):=by
 rw[←mw]
 have n:V≠[]:=fun z=>by rw[z]at m;simp at m
 have x:=qT h l
 have r:dX [.list ((aS V).map ag)]=some ("TooMany":Str):=kQ (x:=("TooMany",[.sh (.list ((aS V).map ag)),.ow ((aS V).map aU),.sh (ag V)])) rfl ((sX (sZ (rs:=[.sh (.list ((aS V).map ag))]) (E1:=[.sh (.list ((aS V).map ag)),.no,.no]) (ds:=[.list ((aS V).map ag)]) rfl rfl (pe x.gd (by rw[fw];have:=x.len;omega)))).trans ((Eb (HQ h s n l)).trans ((Eb (HR h s l)).trans (eY (rs:=[.sh (ag V)]) (ds:=[ag V]) rfl rfl (ni m (by omega))))))
 exact kQ (x:=("TooMany",[.sh (.list ((aS V).map ag))])) rfl (eY (rs:=[.sh (.list ((aS V).map ag))]) (ds:=[.list ((aS V).map ag)]) rfl rfl r)
theorem Ten.tr{V:List Nat}(h:Ten V)(n:V≠[]):cV [.list (V.map b0)]=some (.ow ([V].map ag)):=by
 rw[←mw]
 have hl:=h.len
 have s1:=HQ h.az h.srt n (by omega)
 have s2:=HR h.az h.srt (by omega)
 have c3:gh (aj aN (af false (ae 2) am)) [.sh (.list ((aS V).map ag)),.ow ((aS V).map aU),.sh (ag V)]=some ([.sh (.list ((aS V).map ag)),.ow ((aS V).map aU),.sh (ag V)],.nx):=m_ (aE (ss:=[.sh (ag V)]) rfl rfl (fu hl))
 have c4:aj bP (af false (ae 2) am) [.sh (.list ((aS V).map ag)),.ow ((aS V).map aU),.sh (ag V)]=some (.ow ((BA V).map ag),[.sh (.list ((aS V).map ag)),.ow ((aS V).map aU),.sh (ag V)]):=aE (ss:=[.sh (ag V)]) rfl rfl (BD V hl)
 have i4:b_ (aj bP (af false (ae 2) am)) [.sh (.list ((aS V).map ag)),.ow ((aS V).map aU),.sh (ag V)]=some ((NhFam.iu V).map ag,[.sh (.list ((aS V).map ag)),.ow ((aS V).map aU),.sh (ag V)]):=by
  unfold b_
  rw[c4]
  rfl
 have hK:∀k∈aS V,NH.l6 k:=fun k hk=>abc_uni.ltrs ⟨by obtain⟨a,_,rfl⟩:=sgl_mem.mp hk;unfold NhFam.Srt;simp,fun a ha=>fS (iK h.az k hk a ha)⟩
 have f:=wH hK (NhFam.iu V) .no
 have o:(NhFam.iu V).filter (NhFam.mI (aS V))=[V]:=h.one (NhFam.meetB_iff.mpr fun v hv=>by
  obtain⟨a,ha,rfl⟩:=sgl_mem.mp hv
  exact⟨a,by simp,ha⟩) fun w _ k a ha=>by
  obtain⟨x,hx,xw⟩:=NhFam.meetB_iff.mp k [a] (sgl_mem.mpr ⟨a,ha,rfl⟩)
  rw[Zac.mp hx]at xw
  exact xw
 rw[o]at f
 have p4:=iI (js:=[none,some 1]) i4 f (bX [V]) (by simp)
 have c5:=aE (c:=bq) (ss:=[.ow ([V].map ag)]) (Ds p4) rfl (h.lst n)
 have g:cm [.list ((aS V).map ag)]=(dG [.sh (.list ((aS V).map ag)),.no,.no]).bind fun a=>match a.2 with |.rt r=>fA r |.nx=>some (.sh .none) |_=>none:=rfl
 have fl:=bX [V]
 have m:cm [.list ((aS V).map ag)]=some (.ow ([V].map ag)):=by
  rw[g,dG,aK s1,aK s2,aK c3]
  simp only[bc,c5,Z1,Z0,fA,fU,fl,if_true]
 have c6:aj cm (af false (ae 0) am) [.sh (.list ((aS V).map ag))]=some (.ow ([V].map ag),[.sh (.list ((aS V).map ag))]):=aE (ss:=[.sh (.list ((aS V).map ag))]) rfl rfl m
 have g2:cV [.list ((aS V).map ag)]=(dU [.sh (.list ((aS V).map ag))]).bind fun a=>match a.2 with |.rt r=>fA r |.nx=>some (.sh .none) |_=>none:=rfl
 rw[g2,dU]
 simp only[bc,c6,Z1,Z0,fA,fU,fl,if_true]
theorem wP{g:bj}{A B:List (List Nat)}(hf:f E=some (s1,E))(hg:g E=some (s2,E))(l1:look E s1=some (.list (A.map ag)))(l2:look E s2=some (.list (B.map ag)))(hl:A.length+B.length≤1000000):ao bI false f g E=some (.ow ((A++B).map ag),E):=by
 have fa:=bX A
 have fb:=bX B
 simp only[ao,hf,hg,Z0,bI,l1,l2,fw,hl,fa,fb,Bool.or_true,Bool.and_self,List.map_append,hW]
theorem qV{A B:List (List Nat)}(e0:E[0]? =some (.sh (.list (A.map ag))))(e1:E[1]? =some (.sh (.list (B.map ag))))(h:∀w∈A++B,∀a∈w,az a)(fl:(A++B).flatten.length≤3900)(hl:A.length+B.length≤1000000):aj aH (af false (ao bI false (ae 0) (ae 1)) am) E=some (.sh (ag (av (A++B).flatten)),E):=by
 have v0:ae 0 E=some (.sh (.list (A.map ag)),E):=by simp only[ae,e0,Z0]
 have v1:ae 1 E=some (.sh (.list (B.map ag)),E):=by simp only[ae,e1,Z0]
 exact aE (ss:=[.ow ((A++B).map ag)]) (Ds (wP v0 v1 rfl rfl hl)) rfl (Ed h fl)
theorem DG{A B:List (List Nat)}(h:∀w∈A++B,∀a∈w,az a)(fl:(A++B).flatten.length≤3900)(hl:A.length+B.length≤1000000)(m:10 < (av (A++B).flatten).length):dR [.list (A.map ag),.list (B.map ag)]=some ("TooMany":Str):=by
 have l26:(av (A++B).flatten).length≤26:=lL (List.length_filter_le _ _) (by simp)
 have s:aP 2 (aj aH (af false (ao bI false (ae 0) (ae 1)) am)) [.sh (.list (A.map ag)),.sh (.list (B.map ag)),.no,.no,.no,.no]=some ([.sh (.list (A.map ag)),.sh (.list (B.map ag)),.sh (ag (av (A++B).flatten)),.no,.no,.no],.nx):=gU (i:=2) (qV rfl rfl h fl hl) (show 2 < 6 by decide)
 exact kQ (x:=("TooMany",[.sh (.list (A.map ag)),.sh (.list (B.map ag)),.sh (ag (av (A++B).flatten)),.no,.no,.no])) rfl ((Eb s).trans (eY (rs:=[.sh (ag (av (A++B).flatten))]) (ds:=[ag (av (A++B).flatten)]) rfl rfl (ni m (by omega))))
theorem DH{A B:List (List Nat)}(h:∀w∈A++B,∀a∈w,az a)(fl:(A++B).flatten.length≤3900)(hl:A.length+B.length≤1000000)(m:10 < (av (A++B).flatten).length):dH [.list (A.map ag),.list (B.map ag)]=some ("TooMany":Str):=by
 have l26:(av (A++B).flatten).length≤26:=lL (List.length_filter_le _ _) (by simp)
 exact kQ (x:=("TooMany",[.sh (.list (A.map ag)),.sh (.list (B.map ag))])) rfl (eY (rs:=[.sh (ag (av (A++B).flatten))]) (ds:=[ag (av (A++B).flatten)]) (Ds (qV rfl rfl h fl hl)) rfl (ni m (by omega)))
theorem Jk(hf:f E=some (s1,E1)):af false f am E=some ([s1],E1):=by
 simp only[af,am,hf,Z0,Z1,hW]
theorem Ee:∀(F:List (List Nat)) (x:Sl),dF dY dl dZ (F.map ag) [x]=some (F.map aU):=mn
theorem HS{c:iT}(hc:c=bM (aj aG (af false (aj aQ (af false (ae 0) am)) (af false (ae 1) am)))){K:List (List Nat)}(hK:∀k∈K,NH.l6 k)(w:List Nat):c [.sh (ag w),.sh (.list (K.map aU))]=some (K.any (fun k=>decide (NhFam.le k w)),[.sh (ag w),.sh (.list (K.map aU))]):=by
 subst hc
 have a:aj aQ (af false (ae 0) am) [.sh (ag w),.sh (.list (K.map aU))]=some (.sh (.int (NH.bV w)),[.sh (ag w),.sh (.list (K.map aU))]):=aE (ss:=[.sh (ag w)]) rfl rfl (iH w)
 have e:=wF (NH.bV w) (K.map NH.bV)
 rw[←oP,sU hK]at e
 have b:aj aG (af false (aj aQ (af false (ae 0) am)) (af false (ae 1) am)) [.sh (ag w),.sh (.list (K.map aU))]=some (.sh (.bool (K.any fun k=>decide (NhFam.le k w))),[.sh (ag w),.sh (.list (K.map aU))]):=aE (ss:=[.sh (.int (NH.bV w)),.sh (.list (K.map aU))]) (Ig a rfl) rfl e
 simp only[bM,b,Z0,Sl.val,iX,Z1]
theorem vG{c:iT}(ht:tg=bH 0)(hc:c=bM (aj aG (af false (aj aQ (af false (ae 0) am)) (af false (ae 1) am))))(he:el=ae 0){K:List (List Nat)}(hK:∀k∈K,NH.l6 k):∀(F:List (List Nat)) (x:Sl),dF tg c el (F.map ag) [x,.sh (.list (K.map aU))]=some ((F.filter fun w=>K.any fun k=>decide (NhFam.le k w)).map ag)
 |[],x=>rfl
 |w::F,x=>by
  have t:tg (ag w) [x,.sh (.list (K.map aU))]=some [.sh (ag w),.sh (.list (K.map aU))]:=by subst ht;rfl
  have e:el [.sh (ag w),.sh (.list (K.map aU))]=some (.sh (ag w),[.sh (ag w),.sh (.list (K.map aU))]):=by subst he;rfl
  have i:=Ea t (HS hc hK w) e (vG ht hc he hK F _)
  rw[gI,i,List.filter_cons]
  split <;> rfl
theorem vH{K:List (List Nat)}{w:List Nat}:(K.any fun k=>decide (NhFam.le k w))=true↔∃k∈K,NhFam.le k w:=by simp
theorem tF{w:List Nat}(s:NhFam.Srt w)(a:∀x∈w,az x):NH.l6 w:=abc_uni.ltrs ⟨s,fun x hx=>fS (a x hx)⟩
theorem Ten.bo{V A:List Nat}(h:Ten V)(sA:NhFam.Srt A)(lA:NhFam.le A V)(nA:A≠[]):cN [.list (A.map b0),.list ([V].map ag)]=some (.ow ([V].map ag)):=by
 rw[←mw]
 have hl:=h.len
 have aA:∀a∈A,Nhk46.az a:=fun a ha=>h.az a (lA a ha)
 have lenA:A.length≤10:=lL (NhFam.cT sA h.srt lA).length_le hl
 have nV:V≠[]:=fun z=>by
  obtain⟨a,ha⟩:=List.exists_mem_of_ne_nil A nA
  have:=lA a ha
  rw[z]at this
  cases this
 have fl:(aS A++[V]).flatten=A++V:=by rw[List.flatten_append,my];simp
 have ls:(aS A).length=A.length:=by unfold aS;rw[fw]
 have iV:av (A++V)=V:=(dw _).ext h.srt (fun x hx=>(Zaf.mp (inOrd_mem.mp hx).2).elim (lA x) id) fun x hx=>inOrd_mem.mpr ⟨fS (h.az x hx),Zaf.mpr (.inr hx)⟩
 have k2:=qV (E:=[.sh (.list ((aS A).map ag)),.sh (.list ([V].map ag)),.no,.no,.no,.no]) (A:=aS A) (B:=[V]) rfl rfl (fun w hw a ha=>by
  rcases Zaf.mp hw with q |q
  ·exact iK aA w q a ha
  ·rw[Zac.mp q]at ha;exact h.az a ha) (by rw[fl,qY];omega) (by rw[ls];simp;omega)
 rw[fl,iV]at k2
 have s2:aP 2 (aj aH (af false (ao bI false (ae 0) (ae 1)) am)) [.sh (.list ((aS A).map ag)),.sh (.list ([V].map ag)),.no,.no,.no,.no]=some ([.sh (.list ((aS A).map ag)),.sh (.list ([V].map ag)),.sh (ag V),.no,.no,.no],.nx):=gU (i:=2) k2 (show 2 < 6 by decide)
 have s3:gh (aj aN (af false (ae 2) am)) [.sh (.list ((aS A).map ag)),.sh (.list ([V].map ag)),.sh (ag V),.no,.no,.no]=some ([.sh (.list ((aS A).map ag)),.sh (.list ([V].map ag)),.sh (ag V),.no,.no,.no],.nx):=m_ (aE (ss:=[.sh (ag V)]) rfl rfl (fu hl))
 have i3:b_ (ae 0) [.sh (.list ((aS A).map ag)),.sh (.list ([V].map ag)),.sh (ag V),.no,.no,.no]=some ((aS A).map ag,[.sh (.list ((aS A).map ag)),.sh (.list ([V].map ag)),.sh (ag V),.no,.no,.no]):=rfl
 have s4:aP 3 (c7 [none] (b_ (ae 0)) dY dl dZ) [.sh (.list ((aS A).map ag)),.sh (.list ([V].map ag)),.sh (ag V),.no,.no,.no]=some ([.sh (.list ((aS A).map ag)),.sh (.list ([V].map ag)),.sh (ag V),.ow ((aS A).map aU),.no,.no],.nx):=gV (i:=3) (iI (js:=[none]) i3 (Ee (aS A) .no) (mi _) (by rw[fw];omega)) (show 3 < 6 by decide)
 have i6:b_ (ae 1) [.sh (.list ((aS A).map ag)),.sh (.list ([V].map ag)),.sh (ag V),.ow ((aS A).map aU),.no,.no]=some ([V].map ag,[.sh (.list ((aS A).map ag)),.sh (.list ([V].map ag)),.sh (ag V),.ow ((aS A).map aU),.no,.no]):=rfl
 have s5:aP 4 (c7 [none] (b_ (ae 1)) fJ dl fK) [.sh (.list ((aS A).map ag)),.sh (.list ([V].map ag)),.sh (ag V),.ow ((aS A).map aU),.no,.no]=some ([.sh (.list ((aS A).map ag)),.sh (.list ([V].map ag)),.sh (ag V),.ow ((aS A).map aU),.ow ([V].map aU),.no],.nx):=gV (i:=4) (iI (js:=[none]) i6 (Ee [V] .no) (mi [V]) (by simp)) (show 4 < 6 by decide)
 have c4:aj bP (af false (ae 2) am) [.sh (.list ((aS A).map ag)),.sh (.list ([V].map ag)),.sh (ag V),.ow ((aS A).map aU),.ow ([V].map aU),.no]=some (.ow ((BA V).map ag),[.sh (.list ((aS A).map ag)),.sh (.list ([V].map ag)),.sh (ag V),.ow ((aS A).map aU),.ow ([V].map aU),.no]):=aE (ss:=[.sh (ag V)]) rfl rfl (BD V hl)
 have i4:b_ (aj bP (af false (ae 2) am)) [.sh (.list ((aS A).map ag)),.sh (.list ([V].map ag)),.sh (ag V),.ow ((aS A).map aU),.ow ([V].map aU),.no]=some ((NhFam.iu V).map ag,[.sh (.list ((aS A).map ag)),.sh (.list ([V].map ag)),.sh (ag V),.ow ((aS A).map aU),.ow ([V].map aU),.no]):=by
  unfold b_
  rw[c4]
  rfl
 have n1:((NhFam.iu V).filter fun w=>(aS A).any fun k=>decide (NhFam.le k w)).length≤1000000:=by
  have a:=List.length_filter_le (fun w=>(aS A).any fun k=>decide (NhFam.le k w)) (NhFam.iu V)
  have b:=NhFam.Br V
  have p:2 ^ V.length≤2 ^ 10:=Nat.pow_le_pow_right (by decide) hl
  omega
 have s6:aP 5 (c7 [none,some 3] (b_ (aj bP (af false (ae 2) am))) fL fN fM) [.sh (.list ((aS A).map ag)),.sh (.list ([V].map ag)),.sh (ag V),.ow ((aS A).map aU),.ow ([V].map aU),.no]=some ([.sh (.list ((aS A).map ag)),.sh (.list ([V].map ag)),.sh (ag V),.ow ((aS A).map aU),.ow ([V].map aU),.ow (((NhFam.iu V).filter fun w=>(aS A).any fun k=>decide (NhFam.le k w)).map ag)],.nx):=gV (i:=5) (iI i4 (vG rfl rfl rfl (fun k hk=>tF ((qU sA nA).set k hk).2 (iK aA k hk)) _ _) (bX _) (by rw[fw];exact n1)) (show 5 < 6 by decide)
 have f:=vG (tg:=fO) (c:=fQ) (el:=fP) rfl rfl rfl (K:=[V]) (fun k hk=>by rw[Zac.mp hk];exact tF h.srt h.az) ((NhFam.iu V).filter fun w=>(aS A).any fun k=>decide (NhFam.le k w)) .no
 have o:((NhFam.iu V).filter fun w=>(aS A).any fun k=>decide (NhFam.le k w)).filter (fun w=>[V].any fun k=>decide (NhFam.le k w))=[V]:=by
  rw[List.filter_filter]
  refine h.one ?_ fun w _ k=>?_
  ·rw[qZ,vH,vH]
   obtain⟨a,ha⟩:=List.exists_mem_of_ne_nil A nA
   exact⟨⟨V,by simp,NhFam.le.refl V⟩,[a],sgl_mem.mpr ⟨a,ha,rfl⟩,fun x hx=>by rw[Zac.mp hx];exact lA a ha⟩
  ·rw[qZ,vH]at k
   obtain⟨⟨v,hv,q⟩,_⟩:=k
   rw[Zac.mp hv]at q
   exact q
 rw[o]at f
 have i5:b_ (ae 5) [.sh (.list ((aS A).map ag)),.sh (.list ([V].map ag)),.sh (ag V),.ow ((aS A).map aU),.ow ([V].map aU),.ow (((NhFam.iu V).filter fun w=>(aS A).any fun k=>decide (NhFam.le k w)).map ag)]=some (((NhFam.iu V).filter fun w=>(aS A).any fun k=>decide (NhFam.le k w)).map ag,[.sh (.list ((aS A).map ag)),.sh (.list ([V].map ag)),.sh (ag V),.ow ((aS A).map aU),.ow ([V].map aU),.sh (.list (((NhFam.iu V).filter fun w=>(aS A).any fun k=>decide (NhFam.le k w)).map ag))]):=rfl
 have p5:=iI (js:=[none,some 4]) i5 f (bX [V]) (by simp)
 have c5:=aE (c:=bq) (ss:=[.ow ([V].map ag)]) (Jk p5) rfl (h.lst nV)
 have g:cN [.list ((aS A).map ag),.list ([V].map ag)]=(eR [.sh (.list ((aS A).map ag)),.sh (.list ([V].map ag)),.no,.no,.no,.no]).bind fun a=>match a.2 with |.rt r=>fA r |.nx=>some (.sh .none) |_=>none:=rfl
 have ff:=bX [V]
 rw[g,eR,aK s2,aK s3,aK s4,aK s5,aK s6]
 simp only[bc,c5,Z1,Z0,fA,fU,ff,if_true]
theorem HU{a b:Nat}(h:NhFam.le [a] [b]):a=b:=Zac.mp (h a (by simp))
theorem Ten.ei{V A:List Nat}(h:Ten V)(h2:2≤V.length)(sA:NhFam.Srt A)(lA:NhFam.le A V)(nA:A≠[]):cb [.list (A.map b0),.list ([V].map ag)]=some (.ow (A.map b0)):=by
 rw[←mw]
 have hl:=h.len
 have aA:∀a∈A,Nhk46.az a:=fun a ha=>h.az a (lA a ha)
 have lenA:A.length≤10:=lL (NhFam.cT sA h.srt lA).length_le hl
 have fl:(aS A++[V]).flatten=A++V:=by rw[List.flatten_append,my];simp
 have ls:(aS A).length=A.length:=by unfold aS;rw[fw]
 have iV:av (A++V)=V:=(dw _).ext h.srt (fun x hx=>(Zaf.mp (inOrd_mem.mp hx).2).elim (lA x) id) fun x hx=>inOrd_mem.mpr ⟨fS (h.az x hx),Zaf.mpr (.inr hx)⟩
 have k2:=qV (E:=[.sh (.list ((aS A).map ag)),.sh (.list ([V].map ag))]) (A:=aS A) (B:=[V]) rfl rfl (fun w hw a ha=>by
  rcases Zaf.mp hw with q |q
  ·exact iK aA w q a ha
  ·rw[Zac.mp q]at ha;exact h.az a ha) (by rw[fl,qY];omega) (by rw[ls];simp;omega)
 rw[fl,iV]at k2
 have s1:gh (aj aN (af false (aj aH (af false (ao bI false (ae 0) (ae 1)) am)) am)) [.sh (.list ((aS A).map ag)),.sh (.list ([V].map ag))]=some ([.sh (.list ((aS A).map ag)),.sh (.list ([V].map ag))],.nx):=m_ (aE (ss:=[.sh (ag V)]) (Ds k2) rfl (fu hl))
 have hF:∀v∈aS A++[V],NhFam.Sub V v:=fun v hv=>by
  rcases Zaf.mp hv with q |q
  ·obtain⟨a,ha,rfl⟩:=sgl_mem.mp q
   exact⟨by unfold NhFam.Srt;simp,fun x hx=>by rw[Zac.mp hx];exact lA a ha⟩
  ·rw[Zac.mp q];exact h.self
 have big:∀a,¬NhFam.le V [a]:=fun a z=>by
  have:=(NhFam.cT h.srt (w:=[a]) (by unfold NhFam.Srt;simp) z).length_le
  simp at this
  omega
 have t:NhFam.Told V (aS A) (NhFam.up (aS A++[V])):=⟨(qU sA nA).ord.imp fun q=>q.2,fun w=>by
  rw[NhFam.Bq hF]
  constructor
  ·intro hw
   obtain⟨a,ha,rfl⟩:=sgl_mem.mp hw
   refine⟨Zaf.mpr (.inl hw),fun v hv l=>?_⟩
   rcases Zaf.mp hv with q |q
   ·obtain⟨b,_,rfl⟩:=sgl_mem.mp q
    rw[HU l]
   ·rw[Zac.mp q]at l
    exact absurd l (big a)
  ·rintro⟨hw,m⟩
   rcases Zaf.mp hw with q |q
   ·exact q
   ·rw[Zac.mp q]at m
    obtain⟨a,ha⟩:=List.exists_mem_of_ne_nil A nA
    have e:=m [a] (Zaf.mpr (.inl (sgl_mem.mpr ⟨a,ha,rfl⟩))) fun x hx=>by rw[Zac.mp hx];exact lA a ha
    rw[←e]at h2
    simp at h2⟩
 have e:NhFam.d7 (aS A++[V])=aS A:=(NhFam.jr hF).uniq t fun w _=>Iff.rfl
 have pl:=jE (vC h.u hF (by rw[qY,ls];simp;omega))
 rw[e]at pl
 have c:aj bq (af false (ao bI false (ae 0) (ae 1)) am) [.sh (.list ((aS A).map ag)),.sh (.list ([V].map ag))]=some (.ow ((aS A).map ag),[.sh (.list ((aS A).map ag)),.sh (.list ([V].map ag))]):=aE (ss:=[.ow ((aS A++[V]).map ag)]) (Ds (wP (f:=ae 0) (g:=ae 1) (A:=aS A) (B:=[V]) rfl rfl rfl rfl (by rw[ls];simp;omega))) rfl pl
 have g:cb [.list ((aS A).map ag),.list ([V].map ag)]=(dS [.sh (.list ((aS A).map ag)),.sh (.list ([V].map ag))]).bind fun a=>match a.2 with |.rt r=>fA r |.nx=>some (.sh .none) |_=>none:=rfl
 have ff:=bX (aS A)
 rw[g,dS,aK s1]
 simp only[bc,c,Z1,Z0,fA,fU,ff,if_true]
theorem vI(cell:Int)(many:Nat)(hm:many≤26):∃w:List Nat,bA [.int cell,.int many]=some (.ow (w.map b0))∧w.length=many∧(∀a∈w,az a)∧w.Nodup:=by
 have m0:=tJ (cell / 26) (show(12:Int)≠0 by decide)
 have m1:=wS (cell / 26) (show(0:Int) < 12 by decide)
 obtain⟨i,hi⟩:∃i:Nat,cell / 26 % 12=i:=⟨(cell / 26 % 12).toNat,by omega⟩
 obtain⟨v,ev,v0,v1,v2⟩:=Bu i (by omega)
 have e:=pX cell v v0 v1 many 0 .no
 simp only[Int.natCast_zero]at e
 refine⟨(List.range' 0 many).map (kN cell v),yT cell many v i many _ (by decide) hi (by rw[i_,ev]) (by omega) (by omega) (by simp) e (jB _) (by simp;omega),by simp,fun a ha=>?_,?_⟩
 ·obtain⟨k,_,rfl⟩:=Zaz.mp ha
  exact yU cell v k
 ·rw[List.Nodup,List.pairwise_map]
  refine List.Pairwise.imp_of_mem ?_ (List.pairwise_lt_range' (s:=0) (n:=many))
  intro a b ha hb hab
  exact u_ v2 hab (by have:=List.mem_range'_1.mp hb;omega)
theorem wQ(P:List α)(i n:Nat)(h:i+n≤P.length):iS P (some (i:Int)) (some ((i+n:Nat):Int))=(P.drop i).take n:=by
 have l1:(P.take i).length=i:=by rw[oS];omega
 have l2:((P.drop i).take n).length=n:=by rw[oS,List.length_drop];omega
 refine Bs (a:=P.take i) (b:=(P.drop i).drop n) ?_ (by rw[l1]) (by rw[l1,l2];omega)
 rw[List.append_assoc,List.take_append_drop,List.take_append_drop]
theorem nj{lo hi:Option Int}{f g:CB}{W:List Nat}(hE:E[1]? =some (.ow (W.map b0)))(hf:f E=some (lo,E))(hg:g E=some (hi,E)):fW false (ae 1) f g E=some (.ow ((iS W lo hi).map b0),E):=by
 have v:ae 1 E=some (.al 1,E):=by simp only[ae,hE,Z0]
 have fl:=jB (iS W lo hi)
 have lk:look E (.al 1)=some (.list (W.map b0)):=by simp only[look,hE];rfl
 simp only[fW,v,Z0,hf,hg,lk,rK,fl,Bool.or_true,hW]
theorem BR{i:Int}(h:f E=some (.sh (.int i),E)):b7 f E=some (some i,E):=by
 simp only[b7,h,Z0,look,Sl.val]
theorem jH{w:List Nat}(hf:f E=some (.ow (w.map b0),E))(hl:w.length≤1000000):fB "" f E=some (.sh (ag w),E):=by
 have so:eZ (w.map b0)=some (w.map eG):=mP w
 have l:=wC w
 simp only[fB,iR,rP,hf,Z0,look,Sl.val,so,l,hl,if_true,Z1,sR,ag]
theorem qW{w:List Nat}(hf:f E=some (.sh (ag w),E)):cR (aw f cQ) E=some (.ow ([w].map ag),E):=by
 simp only[cR,aw,cQ,hf,Z0,Z1,frz,Z4,Z5,gI,List.map_nil]
 rfl
theorem zD{X Y:List Nat}(hX:∀a∈X,az a)(hY:∀a∈Y,az a):av (av X++av Y)=av (X++Y):=(dw _).ext (dw _) (fun x hx=>by
 have h:=inOrd_mem.mp hx
 exact inOrd_mem.mpr ⟨h.1,(Zaf.mp h.2).elim (fun q=>Zaf.mpr (.inl (inOrd_mem.mp q).2)) fun q=>Zaf.mpr (.inr (inOrd_mem.mp q).2)⟩) fun x hx=>by
 have h:=inOrd_mem.mp hx
 exact inOrd_mem.mpr ⟨h.1,(Zaf.mp h.2).elim (fun q=>Zaf.mpr (.inl (inOrd_mem.mpr ⟨h.1,q⟩))) fun q=>Zaf.mpr (.inr (inOrd_mem.mpr ⟨h.1,q⟩))⟩
theorem vJ(X Y:List Nat):av (X++Y)=av (Y++X):=by
 unfold av
 refine List.filter_congr fun a _=>?_
 simp[or_comm]
theorem jI(X:List Nat):∀a∈av X,az a:=fun a ha=>by
 have:=List.mem_range'_1.mp (inOrd_mem.mp ha).1
 exact⟨this.1,by omega⟩
abbrev w5:cZ:=cg (aV (bM (jf [3,4] 2 dR (af false (ae 0) (af false (ae 1) am)) ["NoNails","NoRule","TooMany"] aC 8))) (bc (pC (.bool false))) bh
abbrev w6:cZ:=cg (aV (bM (jf [4,3] 2 dH (af false (ae 0) (af false (ae 1) am)) ["NoNails","NoRule","TooMany"] aC 8))) (bc (pC (.bool false))) bh
theorem DI{s0:Sl}{X Y:List (List Nat)}(h:∀w∈X++Y,∀a∈w,az a)(fl:(X++Y).flatten.length≤3900)(hl:X.length+Y.length≤1000000)(m:10 < (av (X++Y).flatten).length):w5 [s0,s1,s2,.ow (X.map ag),.ow (Y.map ag)]=some ([s0,s1,s2,.ow (X.map ag),.ow (Y.map ag)],.nx)∧w6 [s0,s1,s2,.ow (X.map ag),.ow (Y.map ag)]=some ([s0,s1,s2,.ow (X.map ag),.ow (Y.map ag)],.nx):=by
 have e:(av (Y++X).flatten).length=(av (X++Y).flatten).length:=by rw[List.flatten_append,List.flatten_append,vJ]
 have l:(Y++X).flatten.length=(X++Y).flatten.length:=by rw[List.flatten_append,List.flatten_append,qY,qY,Nat.add_comm]
 constructor
 ·exact jG (jF (ds:=[.list (X.map ag),.list (Y.map ag)]) (E1:=[.sh (.list (X.map ag)),.sh (.list (Y.map ag))]) rfl (eY (rs:=[.sh (.list (X.map ag)),.sh (.list (Y.map ag))]) (ds:=[.list (X.map ag),.list (Y.map ag)]) rfl rfl (DG h fl hl m)) (by simp) Dy)
 ·exact jG (jF (ds:=[.list (Y.map ag),.list (X.map ag)]) (E1:=[.sh (.list (Y.map ag)),.sh (.list (X.map ag))]) rfl (eY (rs:=[.sh (.list (Y.map ag)),.sh (.list (X.map ag))]) (ds:=[.list (Y.map ag),.list (X.map ag)]) rfl rfl (DH (fun w hw=>h w ((Zaf.mp hw).elim (fun q=>Zaf.mpr (.inr q)) fun q=>Zaf.mpr (.inl q))) (by omega) (by omega) (by omega))) (by simp) Dy)
theorem DJ{g:bj}{A B:List Nat}(hf:f E=some (s1,E))(hg:g E=some (s2,E))(l1:look E s1=some (.list (A.map b0)))(l2:look E s2=some (.list (B.map b0)))(hl:A.length+B.length≤1000000):ao bI false f g E=some (.ow ((A++B).map b0),E):=by
 have fa:=jB A
 have fb:=jB B
 simp only[ao,hf,hg,Z0,bI,l1,l2,fw,hl,fa,fb,Bool.or_true,Bool.and_self,List.map_append,hW]
theorem vK{g:bj}(hf:f E=some (s1,E))(hg:g E=some (s2,E))(l1:look E s1=some d)(l2:look E s2=some d)(q:D0 d d=some true):ao oW false f g E=some (.sh (.bool true),E):=by
 simp only[ao,hf,hg,Z0,l1,l2,oW,kR,q,Z1,hW]
theorem iL{W:List Nat}(n:W.Nodup)(k:Nat):(W.take k).Nodup:=n.sublist (List.take_sublist ..)
theorem tH(W:List Nat)(i n:Nat):W.take i++(W.drop i).take n=W.take (i+n):=by rw[List.take_add]
theorem Gk(z:Int):bL [.int z]=some (.sh (.bool true)):=by
 have g:bL [.int z]=(cG [.sh (.int z),.no,.no,.no,.no]).bind fun a=>match a.2 with |.rt r=>fA r |.nx=>some (.sh .none) |_=>none:=rfl
 obtain⟨W,e1,lW,aW,nW⟩:=vI z 16 (by decide)
 have s1:aP 1 (aj bA (af false (ae 0) (af false (pC (.int 16)) am))) [.sh (.int z),.no,.no,.no,.no]=some ([.sh (.int z),.ow (W.map b0),.no,.no,.no],.nx):=gV (i:=1) (aE (ss:=[.sh (.int z),.sh (.int 16)]) (E1:=[.sh (.int z),.no,.no,.no,.no]) rfl rfl e1) (show 1 < 5 by decide)
 have z0:=tJ (z / 5) (b:=10) (by decide)
 have z1:=wS (z / 5) (b:=10) (by decide)
 obtain⟨n,hn⟩:=Int.eq_ofNat_of_zero_le (a:=1+z / 5 % 10) (by omega)
 have n1:1≤n:=by omega
 have n10:n≤10:=by omega
 have a2:=jC (E:=[.sh (.int z),.ow (W.map b0),.no,.no,.no]) (g:=pC (.int 1)) (x:=1) rfl (qO (g:=pC (.int 10)) (y:=10) (j4 (f:=ae 0) (x:=z) (g:=pC (.int 5)) (y:=5) rfl rfl (by decide)) rfl (by decide))
 rw[hn]at a2
 have s2:aP 2 (ao bI false (pC (.int 1)) (ao eM false (ao di false (ae 0) (pC (.int 5))) (pC (.int 10)))) [.sh (.int z),.ow (W.map b0),.no,.no,.no]=some ([.sh (.int z),.ow (W.map b0),.sh (.int (n:Int)),.no,.no],.nx):=gU (i:=2) a2 (show 2 < 5 by decide)
 have c3:=nj (E:=[.sh (.int z),.ow (W.map b0),.sh (.int (n:Int)),.no,.no]) (W:=W) (lo:=none) (hi:=some (n:Int)) (f:=eF) (g:=b7 (ae 2)) rfl rfl rfl
 rw[pG W (Int.natCast_nonneg n),Int.toNat_natCast]at c3
 have aT:∀k,∀y∈W.take k,az y:=fun k y hy=>aW y (List.mem_of_mem_take hy)
 have k3:=mq c3 (by rw[oS];omega) (iL nW n) (aT n)
 have s3:aP 3 (fX (fW false (ae 1) eF (b7 (ae 2)))) [.sh (.int z),.ow (W.map b0),.sh (.int (n:Int)),.no,.no]=some ([.sh (.int z),.ow (W.map b0),.sh (.int (n:Int)),.ow ((aS (av (W.take n))).map ag),.no],.nx):=by
  rw[mw]
  exact gV (i:=3) k3 (show 3 < 5 by decide)
 have y0:=tJ (z / 50) (b:=6) (by decide)
 have y1:=wS (z / 50) (b:=6) (by decide)
 obtain⟨m,hm⟩:=Int.eq_ofNat_of_zero_le (a:=11+z / 50 % 6 - n) (by omega)
 have m1:11≤n+m:=by omega
 have m2:n+m≤16:=by omega
 generalize hA:av (W.take n)=A at s3
 have a4:=jC (E:=[.sh (.int z),.ow (W.map b0),.sh (.int (n:Int)),.ow ((aS A).map ag),.no]) (g:=pC (.int 11)) (x:=11) rfl (qO (g:=pC (.int 6)) (y:=6) (j4 (f:=ae 0) (x:=z) (g:=pC (.int 50)) (y:=50) rfl rfl (by decide)) rfl (by decide))
 rw[show 11+z / 50 % 6=((n+m:Nat):Int) by omega]at a4
 have c4:=nj (E:=[.sh (.int z),.ow (W.map b0),.sh (.int (n:Int)),.ow ((aS A).map ag),.no]) (W:=W) (lo:=some (n:Int)) (f:=b7 (ae 2)) rfl rfl (BR a4)
 rw[wQ W n m (by omega)]at c4
 have aD:∀k,∀y∈(W.drop n).take k,az y:=fun k y hy=>aW y (List.mem_of_mem_drop (List.mem_of_mem_take hy))
 have nD:∀k,((W.drop n).take k).Nodup:=fun k=>(nW.sublist (List.drop_sublist ..)).sublist (List.take_sublist ..)
 have k4:=qW (jH (mq c4 (by rw[oS,List.length_drop];omega) (nD m) (aD m)) (by have:=j1 ((W.drop n).take m);omega))
 generalize hB:av ((W.drop n).take m)=B at k4
 have s4:aP 4 (cR (aw (fB "" (fX (fW false (ae 1) (b7 (ae 2)) (b7 (ao bI false (pC (.int 11)) (ao eM false (ao di false (ae 0) (pC (.int 50))) (pC (.int 6)))))))) cQ)) [.sh (.int z),.ow (W.map b0),.sh (.int (n:Int)),.ow ((aS A).map ag),.no]=some ([.sh (.int z),.ow (W.map b0),.sh (.int (n:Int)),.ow ((aS A).map ag),.ow ([B].map ag)],.nx):=gV (i:=4) k4 (show 4 < 5 by decide)
 have aA:∀a∈A,az a:=by rw[←hA];exact jI _
 have aB:∀a∈B,az a:=by rw[←hB];exact jI _
 have fl:(aS A++[B]).flatten=A++B:=by rw[List.flatten_append,my];simp
 have lA:A.length=n:=by rw[←hA,dL (iL nW n) (aT n),oS];omega
 have lB:B.length=m:=by rw[←hB,dL (nD m) (aD m),oS,List.length_drop];omega
 have many:(av (A++B)).length=n+m:=by
  rw[←hA,←hB,zD (aT n) (aD m),tH,dL (iL nW _) (aT _),oS]
  omega
 have ls:(aS A).length=n:=by unfold aS;rw[fw,lA]
 obtain⟨s5,s6⟩:=DI (s0:=.sh (.int z)) (s1:=.ow (W.map b0)) (s2:=.sh (.int (n:Int))) (X:=aS A) (Y:=[B]) (fun w hw a ha=>by
  rcases Zaf.mp hw with q |q
  ·exact iK aA w q a ha
  ·rw[Zac.mp q]at ha;exact aB a ha) (by rw[fl,qY];omega) (by rw[ls];simp;omega) (by rw[fl,many];omega)
 have d1:=nj (E:=[.sh (.int z),.ow (W.map b0),.sh (.int (n:Int)),.ow ((aS A).map ag),.ow ([B].map ag)]) (W:=W) (lo:=none) (hi:=some (n:Int)) (f:=eF) (g:=b7 (ae 2)) rfl rfl rfl
 rw[pG W (Int.natCast_nonneg n),Int.toNat_natCast]at d1
 have d2:=nj (E:=[.sh (.int z),.ow (W.map b0),.sh (.int (n:Int)),.ow ((aS A).map ag),.ow ([B].map ag)]) (W:=W) (lo:=some (n:Int)) (hi:=some ((n+(10 - n):Nat):Int)) (f:=b7 (ae 2)) (g:=b7 (pC (.int 10))) rfl rfl (by rw[show n+(10 - n)=10 by omega];rfl)
 rw[wQ W n (10 - n) (by omega)]at d2
 have d3:=DJ d1 d2 rfl rfl (by simp only[oS,List.length_drop];omega)
 rw[tH,show n+(10 - n)=10 by omega]at d3
 have k7:=qW (jH (mq d3 (by rw[oS];omega) (iL nW 10) (aT 10)) (by have:=j1 (W.take 10);omega))
 have lV:(av (W.take 10)).length=10:=by rw[dL (iL nW 10) (aT 10),oS];omega
 have leA:NhFam.le A (av (W.take 10)):=fun x hx=>by
  rw[←hA]at hx
  have h:=inOrd_mem.mp hx
  exact inOrd_mem.mpr ⟨h.1,(List.take_subset_take_left W n10) h.2⟩
 have ten:Ten (av (W.take 10)):=⟨dw _,jI _,by omega⟩
 generalize av (W.take 10)=V at k7 lV leA ten
 have s7:aP 4 (cR (aw (fB "" (fX (ao bI false (fW false (ae 1) eF (b7 (ae 2))) (fW false (ae 1) (b7 (ae 2)) (b7 (pC (.int 10))))))) cQ)) [.sh (.int z),.ow (W.map b0),.sh (.int (n:Int)),.ow ((aS A).map ag),.ow ([B].map ag)]=some ([.sh (.int z),.ow (W.map b0),.sh (.int (n:Int)),.ow ((aS A).map ag),.ow ([V].map ag)],.nx):=gV (i:=4) k7 (show 4 < 5 by decide)
 have sA:NhFam.Srt A:=by rw[←hA];exact dw _
 have nA:A≠[]:=fun q=>by rw[q]at lA;simp at lA;omega
 have bo:=ten.bo sA leA nA
 have ei:=ten.ei (by omega) sA leA nA
 rw[←mw]at bo ei
 have c8:aj cN (af false (ae 3) (af false (ae 4) am)) [.sh (.int z),.ow (W.map b0),.sh (.int (n:Int)),.ow ((aS A).map ag),.ow ([V].map ag)]=some (.ow ([V].map ag),[.sh (.int z),.ow (W.map b0),.sh (.int (n:Int)),.ow ((aS A).map ag),.ow ([V].map ag)]):=aE (ss:=[.al 3,.al 4]) rfl rfl bo
 have c9:aj cb (af false (ae 3) (af false (ae 4) am)) [.sh (.int z),.ow (W.map b0),.sh (.int (n:Int)),.ow ((aS A).map ag),.ow ([V].map ag)]=some (.ow ((aS A).map ag),[.sh (.int z),.ow (W.map b0),.sh (.int (n:Int)),.ow ((aS A).map ag),.ow ([V].map ag)]):=aE (ss:=[.al 3,.al 4]) rfl rfl ei
 have e8:=vK (g:=ae 4) (s2:=.al 4) c8 rfl rfl rfl (qP (L:=[V]) fun w hw=>by rw[Zac.mp hw];exact ten.az)
 have e9:=vK (g:=ae 3) (s2:=.al 3) c9 rfl rfl rfl (qP (iK aA))
 have e10:mE (ao oW false (aj cN (af false (ae 3) (af false (ae 4) am))) (ae 4)) (ao oW false (aj cb (af false (ae 3) (af false (ae 4) am))) (ae 3)) [.sh (.int z),.ow (W.map b0),.sh (.int (n:Int)),.ow ((aS A).map ag),.ow ([V].map ag)]=some (.sh (.bool true),[.sh (.int z),.ow (W.map b0),.sh (.int (n:Int)),.ow ((aS A).map ag),.ow ([V].map ag)]):=by
  unfold mE
  rw[e8,Option.bind_some]
  exact e9
 rw[g,cG,aK s1,aK s2,aK s3,aK s4,aK s5,aK s6,aK s7]
 simp only[bc,e10,Z0]
 rfl
theorem qX{r:Sl}{i:Nat}(h:f E=some (r,E))(hr:r=.sh d∨r=.br d)(hE:frzAll E=E)(hi:i < E.length):aP i f E=some (E.set i (.sh d),.nx):=by
 unfold aP
 rw[h,Option.bind_some]
 rcases hr with rfl |rfl
 ·simp only[PL.settle,Z0,if_pos hi]
 ·simp only[PL.settle]
  by_cases q:dP d=true
  ·simp only[q,if_true,Z0,if_pos hi]
  ·rw[if_neg q,hE,Option.bind_some]
   simp only[if_pos hi]
theorem tI{w:List Nat}(hf:f E=some (.sh (ag w),E))(hl:w.length < 64)(n:w.Nodup)(a:∀y∈w,az y):kr f E=some (.ow ((av w).map b0),E):=by
 have l:(fE (⟨w.toArray⟩:Str)).length < 64:=by rw[Bx,fw];exact hl
 have m:((av w).map eG).map PyData.str=(av w).map b0:=by rw[List.map_map];rfl
 have s:fD (fE (⟨w.toArray⟩:Str))=(av w).map eG:=by rw[Bx,pZ n a]
 simp only[kr,hf,Z0,look,ag,Sl.val,l,if_true,s,m]
theorem DK{w:List Nat}(hE:E[2]? =some (.sh (ag w)))(hk:k≤w.length)(hl:w.length≤1000000){g:CB}(hg:g E=some (some (k:Int),E)):fW false (ae 2) eF g E=some (.sh (ag (w.take k)),E):=by
 have v:ae 2 E=some (.sh (ag w),E):=by simp only[ae,hE,Z0]
 have s:=iJ w k hk
 have l:=ef w
 simp only[fW,v,eF,Z0,hg,look,ag,Sl.val,l,hl,s,hW]
theorem HV{z:Int} {n:PyData} {w:List Nat} (s3 s4 s6 x:Sl) (hd:bK [d]=some ("NoNails":Str)) (hw:∀a∈w,az a) (hl:w.length≤100) (hm:10 < (av w).length):(a_ n [.sh (.int z),.sh d,.sh (ag w),s3,s4,x,s6]).bind ba=some ([.sh (.int z),.sh d,.sh (ag w),s3,s4,.sh n,s6],.nx):=by
 have t:a_ n [.sh (.int z),.sh d,.sh (ag w),s3,s4,x,s6]=some [.sh (.int z),.sh d,.sh (ag w),s3,s4,.sh n,s6]:=rfl
 rw[t,Option.bind_some,ba,aK (jG (jF (ds:=[d,n]) (E1:=[.sh d,.sh n]) rfl (eY (rs:=[.sh d,.sh n]) (ds:=[d,n]) rfl rfl (Gh hd)) (by simp) HC))]
 exact jG (jF (ds:=[ag w,n]) (E1:=[.sh (ag w),.sh n]) rfl (eY (rs:=[.sh (ag w),.sh n]) (ds:=[ag w,n]) rfl rfl (DD hw hl hm)) (by simp) Dy)
theorem Gm(z:Int):aZ [.int z]=some (.sh (.bool true)):=by
 have g:aZ [.int z]=(bB [.sh (.int z),.no,.no,.no,.no,.no,.no]).bind fun a=>match a.2 with |.rt r=>fA r |.nx=>some (.sh .none) |_=>none:=rfl
 obtain⟨r1,d1,e1,h1,b1⟩:=Ge z
 have c1:aj aR (af false (ae 0) am) [.sh (.int z),.no,.no,.no,.no,.no,.no]=some (r1,[.sh (.int z),.no,.no,.no,.no,.no,.no]):=aE (ss:=[.sh (.int z)]) rfl rfl e1
 have s1:aP 1 (aj aR (af false (ae 0) am)) [.sh (.int z),.no,.no,.no,.no,.no,.no]=some ([.sh (.int z),.sh d1,.no,.no,.no,.no,.no],.nx):=qX c1 h1 rfl (show 1 < 7 by decide)
 have z0:=tJ z (b:=5) (by decide)
 have z1:=wS z (b:=5) (by decide)
 obtain⟨k,hk⟩:=Int.eq_ofNat_of_zero_le (a:=11+z % 5) (by omega)
 have a2:=jC (E:=[.sh (.int z),.sh d1,.no,.no,.no,.no,.no]) (g:=pC (.int 11)) (x:=11) rfl (qO (f:=ae 0) (x:=z) (g:=pC (.int 5)) (y:=5) rfl rfl (by decide))
 rw[hk]at a2
 obtain⟨W,e2,lW,aW,nW⟩:=vI z k (by omega)
 have k2:=jH (aE (ss:=[.sh (.int z),.sh (.int (k:Int))]) (Ig (f:=ae 0) rfl a2) rfl e2) (by omega)
 have s2:aP 2 (fB "" (aj bA (af false (ae 0) (af false (ao bI false (pC (.int 11)) (ao eM false (ae 0) (pC (.int 5)))) am)))) [.sh (.int z),.sh d1,.no,.no,.no,.no,.no]=some ([.sh (.int z),.sh d1,.sh (ag W),.no,.no,.no,.no],.nx):=gU (i:=2) k2 (show 2 < 7 by decide)
 have y0:=tJ (z / 7) (b:=8) (by decide)
 have y1:=wS (z / 7) (b:=8) (by decide)
 obtain⟨j,hj⟩:=Int.eq_ofNat_of_zero_le (a:=z / 7 % 8) y0
 have a3:=qO (E:=[.sh (.int z),.sh d1,.sh (ag W),.no,.no,.no,.no]) (g:=pC (.int 8)) (y:=8) (j4 (f:=ae 0) (x:=z) (g:=pC (.int 7)) (y:=7) rfl rfl (by decide)) rfl (by decide)
 rw[hj]at a3
 obtain⟨Y,e3,lY,aY,nY⟩:=vI z j (by omega)
 have k3:=jH (aE (ss:=[.sh (.int z),.sh (.int (j:Int))]) (Ig (f:=ae 0) rfl a3) rfl e3) (by omega)
 have s3:aP 3 (fB "" (aj bA (af false (ae 0) (af false (ao eM false (ao di false (ae 0) (pC (.int 7))) (pC (.int 8))) am)))) [.sh (.int z),.sh d1,.sh (ag W),.no,.no,.no,.no]=some ([.sh (.int z),.sh d1,.sh (ag W),.sh (ag Y),.no,.no,.no],.nx):=gU (i:=3) k3 (show 3 < 7 by decide)
 obtain⟨r4,d4,e4,h4,b4⟩:=BQ (z / 11) Y.length
 have l4:j5 j6 (af false (ae 3) am) [.sh (.int z),.sh d1,.sh (ag W),.sh (ag Y),.no,.no,.no]=some (.sh (.int (Y.length:Int)),[.sh (.int z),.sh d1,.sh (ag W),.sh (ag Y),.no,.no,.no]):=by
  have l:=ef Y
  have l2:Y.length≤1000000:=by omega
  simp! [ag,l,l2]
 have c4:=aE (c:=aI) (ss:=[.sh (.int (z / 11)),.sh (.int (Y.length:Int))]) (Ig (j4 (E:=[.sh (.int z),.sh d1,.sh (ag W),.sh (ag Y),.no,.no,.no]) (f:=ae 0) (x:=z) (g:=pC (.int 11)) (y:=11) rfl rfl (by decide)) l4) rfl e4
 have s4:aP 4 (aj aI (af false (ao di false (ae 0) (pC (.int 11))) (af false (j5 j6 (af false (ae 3) am)) am))) [.sh (.int z),.sh d1,.sh (ag W),.sh (ag Y),.no,.no,.no]=some ([.sh (.int z),.sh d1,.sh (ag W),.sh (ag Y),.sh d4,.no,.no],.nx):=qX c4 h4 rfl (show 4 < 7 by decide)
 have mW:10 < (av W).length:=by rw[dL nW aW];omega
 have b5:=fun n x=>HV (z:=z) (d:=d1) (n:=n) (w:=W) (.sh (ag Y)) (.sh d4) .no x b1 aW (by omega) mW
 have s5:i7 (b_ (cR (aw (pC (.int 1)) (aw (ae 4) cQ)))) a_ ba [.sh (.int z),.sh d1,.sh (ag W),.sh (ag Y),.sh d4,.no,.no]=some ([.sh (.int z),.sh d1,.sh (ag W),.sh (ag Y),.sh d4,.sh d4,.no],.nx):=by
  have it:b_ (cR (aw (pC (.int 1)) (aw (ae 4) cQ))) [.sh (.int z),.sh d1,.sh (ag W),.sh (ag Y),.sh d4,.no,.no]=some ([.int 1,d4],[.sh (.int z),.sh d1,.sh (ag W),.sh (ag Y),.sh d4,.no,.no]):=rfl
  unfold i7
  rw[it,Option.bind_some,dk,b5]
  show dk _ _ [d4] _=_
  rw[dk,b5]
  rfl
 have iY:=dL nY aY
 have s6:cg (aV (bM (jf [3,4] 2 cE (af false (ae 0) (af false (ae 1) am)) ["NoNails","NoRule","TooMany"] aC 2))) (bc (pC (.bool false))) bh [.sh (.int z),.sh d1,.sh (ag W),.sh (ag Y),.sh d4,.sh d4,.no]=some ([.sh (.int z),.sh d1,.sh (ag W),.sh (ag Y),.sh d4,.sh d4,.no],.nx):=jG (jF (ds:=[ag Y,d4]) (E1:=[.sh (ag Y),.sh d4]) rfl (eY (rs:=[.sh (ag Y),.sh d4]) (ds:=[ag Y,d4]) rfl rfl (Gi aY (by omega) (by omega) (by rw[iY];exact b4))) (by simp) HE)
 have s7:cg (aV (bM (jf [1] 1 g9 (af false (cR (aw (pC (.str "ab")) (aw (pC (.str "cd")) cQ))) (af false (ae 0) am)) ["NoNails","NoRule","TooMany"] aC 1))) (bc (pC (.bool false))) bh [.sh (.int z),.sh d1,.sh (ag W),.sh (ag Y),.sh d4,.sh d4,.no]=some ([.sh (.int z),.sh d1,.sh (ag W),.sh (ag Y),.sh d4,.sh d4,.no],.nx):=jG (jF (ds:=[d1]) (E1:=[.sh d1]) rfl (eY (rs:=[.ow [.str "ab",.str "cd"],.sh d1]) (ds:=[.list [.str "ab",.str "cd"],d1]) rfl rfl (Gj b1)) (by simp) HC)
 have s8:aP 6 (kr (ae 2)) [.sh (.int z),.sh d1,.sh (ag W),.sh (ag Y),.sh d4,.sh d4,.no]=some ([.sh (.int z),.sh d1,.sh (ag W),.sh (ag Y),.sh d4,.sh d4,.ow ((av W).map b0)],.nx):=gV (i:=6) (tI (f:=ae 2) (w:=W) rfl (by omega) nW aW) (show 6 < 7 by decide)
 have l26:(av W).length≤26:=lL (List.length_filter_le _ _) (by simp)
 have s9:cg (aV (bM (jf [6] 1 dI (af false (ae 0) am) ["NoNails","NoRule","TooMany"] aC 8))) (bc (pC (.bool false))) bh [.sh (.int z),.sh d1,.sh (ag W),.sh (ag Y),.sh d4,.sh d4,.ow ((av W).map b0)]=some ([.sh (.int z),.sh d1,.sh (ag W),.sh (ag Y),.sh d4,.sh d4,.ow ((av W).map b0)],.nx):=jG (jF (ds:=[.list ((av W).map b0)]) (E1:=[.sh (.list ((av W).map b0))]) rfl (eY (rs:=[.sh (.list ((av W).map b0))]) (ds:=[.list ((av W).map b0)]) rfl rfl (DF (jI W) (dw W) (by omega) mW)) (by simp) Dy)
 have cu:=DK (E:=[.sh (.int z),.sh d1,.sh (ag W),.sh (ag Y),.sh d4,.sh d4,.ow ((av W).map b0)]) (w:=W) (k:=10) (g:=b7 (pC (.int 10))) rfl (by omega) (by omega) rfl
 have so:=tI cu (by rw[oS];omega) (iL nW 10) fun y hy=>aW y (List.mem_of_mem_take hy)
 have lV:(av (W.take 10)).length=10:=by rw[dL (iL nW 10) fun y hy=>aW y (List.mem_of_mem_take hy),oS];omega
 have ten:Ten (av (W.take 10)):=⟨dw _,jI _,by omega⟩
 generalize av (W.take 10)=V at so lV ten
 have t1:=aE (c:=cV) (ss:=[.ow (V.map b0)]) (Ds so) rfl (ten.tr fun q=>by rw[q]at lV;simp at lV)
 have t2:=qW (jH so (by omega))
 have e10:=vK t1 t2 rfl rfl (qP (L:=[V]) fun w hw=>by rw[Zac.mp hw];exact ten.az)
 rw[g,bB,aK s1,aK s2,aK s3,aK s4,aK s5,aK s6,aK s7,aK s8,aK s9]
 simp only[bc,e10,Z0]
 rfl
theorem BS:NhFam.d7 (eX [[98,97],[99]])=[[99],[97,98]]:=by
 have e:eX [[98,97],[99]]=[[97,98],[99]]:=by decide
 have a1:∀w∈([[97,98],[99]]:List (List Nat)),∀x∈w,az x:=by unfold az;decide
 have a2:∀w∈([[99],[97,98]]:List (List Nat)),∀x∈w,az x:=by unfold az;decide
 have s1:∀w∈([[97,98],[99]]:List (List Nat)),NhFam.Srt w:=by unfold NhFam.Srt;decide
 have s2:∀w∈([[99],[97,98]]:List (List Nat)),NhFam.Srt w:=by unfold NhFam.Srt;decide
 have r:IsR [[99],[97,98]]:=⟨by decide,fun w hw=>⟨fun z=>by subst z;revert hw;decide,s2 w hw⟩,by
  refine List.pairwise_cons.mpr ⟨fun w hw=>?_,by simp⟩
  rw[Zac.mp hw]
  exact⟨by unfold NhFam.le;decide,NhSG.ltKy_iff.mpr (.inl (by decide))⟩⟩
 have i:=mv a2 r
 rw[qQ a2 s2]at i
 have t1:=NhFam.jr (U:=Gu) (F:=[[97,98],[99]]) fun v hv=>⟨s1 v hv,fun x hx=>fS (a1 v hv x hx)⟩
 have t2:=NhFam.jr (U:=Gu) (F:=[[99],[97,98]]) fun v hv=>⟨s2 v hv,fun x hx=>fS (a2 v hv x hx)⟩
 rw[e,t1.uniq t2 fun w _=>⟨fun⟨v,hv,l⟩=>⟨v,by revert hv;simp;intro h;exact h.symm,l⟩,fun⟨v,hv,l⟩=>⟨v,by revert hv;simp;intro h;exact h.symm,l⟩⟩,i]
theorem DM:dN [.str "ba c"]=some (.ow ([[99],[97,98]].map ag)):=by
 have g:dN [.str "ba c"]=(fG [.sh (.str "ba c"),.no]).bind fun a=>match a.2 with |.rt r=>fA r |.nx=>some (.sh .none) |_=>none:=rfl
 have s1:cg (aV (bM (iR (i0 .str) (ae 0)))) e_ bh [.sh (.str "ba c"),.no]=some ([.sh (.str "ba c"),.no],.nx):=rfl
 have s2:aP 1 (ij 0 (pC (.str " "))) [.sh (.str "ba c"),.no]=some ([.sh (.str "ba c"),.ow ([[98,97],[99]].map ag)],.nx):=by kernel_rfl
 have s3:cg (iN (ao (BW false) false (pC (.str "")) (ae 1))) e_ bh [.sh (.str "ba c"),.ow ([[98,97],[99]].map ag)]=some ([.sh (.str "ba c"),.ow ([[98,97],[99]].map ag)],.nx):=by kernel_rfl
 have e:=vD (W:=[[98,97],[99]]) ⟨by unfold az;decide,by decide,by decide⟩
 rw[BS]at e
 have c:aj bE (af false (ae 1) am) [.sh (.str "ba c"),.ow ([[98,97],[99]].map ag)]=some (.ow ([[99],[97,98]].map ag),[.sh (.str "ba c"),.ow ([[98,97],[99]].map ag)]):=aE (ss:=[.al 1]) rfl rfl e
 have ff:=bX [[99],[97,98]]
 rw[g,fG,aK s1,aK s2,aK s3]
 simp only[bc,c,Z1,Z0,fA,fU,ff,if_true]
theorem JK:(Str.ofString "c")=⟨[99].toArray⟩:=by decide+kernel
theorem Jl:(Str.ofString "ab")=⟨[97,98].toArray⟩:=by decide+kernel
theorem HW(sc:PyData)(z:Int)(x1 x:Sl)(hx:pA x=x):∃d,(hJ (.int z) [.sh sc,x1,x]).bind hM=some ([.sh sc,.sh (.int z),.sh d],.nx):=by
 have t:hJ (.int z) [.sh sc,x1,x]=some [.sh sc,.sh (.int z),x]:=rfl
 obtain⟨r,d,e,h,b⟩:=Gc z
 have c1:aj aM (af false (ae 1) am) [.sh sc,.sh (.int z),x]=some (r,[.sh sc,.sh (.int z),x]):=aE (ss:=[.sh (.int z)]) rfl rfl e
 have s1:aP 2 (aj aM (af false (ae 1) am)) [.sh sc,.sh (.int z),x]=some ([.sh sc,.sh (.int z),.sh d],.nx):=qX c1 h (by show[_,_,pA x]=_;rw[hx];rfl) (show 2 < 3 by decide)
 have s2:cg (aV (bM (jf [2] 1 a7 (af false (ae 0) am) ["NoNails","NoRule","TooMany"] aC 2))) (bc (pC (.bool false))) bh [.sh sc,.sh (.int z),.sh d]=some ([.sh sc,.sh (.int z),.sh d],.nx):=jG (jF (ds:=[d]) (E1:=[.sh d]) rfl (eY (rs:=[.sh d]) (ds:=[d]) rfl rfl b) (by simp) HE)
 have a3:=aE (c:=aZ) (ss:=[.sh (.int (z / 3))]) (Ds (j4 (E:=[.sh sc,.sh (.int z),.sh d]) (f:=ae 1) (x:=z) (g:=pC (.int 3)) (y:=3) rfl rfl (by decide))) rfl (Gm (z / 3))
 have a4:=aE (c:=bL) (ss:=[.sh (.int (z / 7))]) (Ds (j4 (E:=[.sh sc,.sh (.int z),.sh d]) (f:=ae 1) (x:=z) (g:=pC (.int 7)) (y:=7) rfl rfl (by decide))) rfl (Gk (z / 7))
 have nt:∀{f:bj} {E:List Sl},f E=some (.sh (.bool true),E)→aV (bM f) E=some (false,E):=fun {f E} h=>by
  simp only[aV,bM,h,Z0,Sl.val,iX,Z1,Bool.not_true]
 have s3:=jA (a:=bc (pC (.bool false))) (b:=bh) (Hy (nt a3) (nt a4)) (r:=some ([.sh sc,.sh (.int z),.sh d],.nx)) rfl
 have c5:aj dN (af false (pC (.str "ba c")) am) [.sh sc,.sh (.int z),.sh d]=some (.ow ([[99],[97,98]].map ag),[.sh sc,.sh (.int z),.sh d]):=aE (ss:=[.sh (.str "ba c")]) rfl rfl DM
 have l5:cR (aw (pC (.str "c")) (aw (pC (.str "ab")) cQ)) [.sh sc,.sh (.int z),.sh d]=some (.ow ([[99],[97,98]].map ag),[.sh sc,.sh (.int z),.sh d]):=by
  rw[JK,Jl]
  rfl
 have n5:=HB c5 l5 rfl rfl (L:=[[99],[97,98]]) (by unfold az;decide)
 refine⟨d,?_⟩
 rw[t,Option.bind_some,hM,aK s1,aK s2,aK s3]
 exact jA n5 rfl
theorem Ef(sc:PyData):∀(zs:List Int) (x1 x:Sl),pA x=x→∃E,dk hJ hM (zs.map .int) [.sh sc,x1,x]=some (E,.nx)
 |[],x1,x,_=>⟨_,rfl⟩
 |z::zs,x1,x,hx=>by
  obtain⟨d,e⟩:=HW sc z x1 x hx
  obtain⟨E,q⟩:=Ef sc zs (.sh (.int z)) (.sh d) rfl
  refine⟨E,?_⟩
  rw[gI,dk,e]
  exact q
theorem Gn(ns:List Int)(hl:ns.length≤63):kC [.list (ns.map .int)]=some (.sh (.bool true)):=by
 have g:kC [.list (ns.map .int)]=(sN [.sh (.list (ns.map .int)),.no,.no]).bind fun a=>match a.2 with |.rt r=>fA r |.nx=>some (.sh .none) |_=>none:=rfl
 have e0:=yV ns 0
 rw[Int.natCast_zero]at e0
 have a0:aj du (af false (ae 0) (af false (pC (.int 0)) am)) [.sh (.list (ns.map .int)),.no,.no]=some (.sh (.int (ns.getD 0 0)),[.sh (.list (ns.map .int)),.no,.no]):=aE (ss:=[.sh (.list (ns.map .int)),.sh (.int 0)]) rfl rfl e0
 have a1:=jC a0 (f:=pC (.int 7)) (y:=7) rfl
 have it:b_ (ao bI false (fW false (ae 0) eF (b7 (pC (.int 16)))) (cR (aw (ao bI false (aj du (af false (ae 0) (af false (pC (.int 0)) am))) (pC (.int 7))) cQ))) [.sh (.list (ns.map .int)),.no,.no]=some ((iS ns none (some 16)++[ns.getD 0 0+7]).map .int,[.sh (.list (ns.map .int)),.no,.no]):=by
  have fl:(iS ns none (some 16)).length+1≤1000000:=by have:=Ar ns none (some 16);omega
  have cu:fW false (ae 0) eF (b7 (pC (.int 16))) [.sh (.list (ns.map .int)),.no,.no]=some (.ow ((iS ns none (some 16)).map .int),[.sh (.list (ns.map .int)),.no,.no]):=by
   have f:=pE (iS ns none (some 16))
   simp! [f]
  have li:cR (aw (ao bI false (aj du (af false (ae 0) (af false (pC (.int 0)) am))) (pC (.int 7))) cQ) [.sh (.list (ns.map .int)),.no,.no]=some (.ow [.int (ns.getD 0 0+7)],[.sh (.list (ns.map .int)),.no,.no]):=by
   simp only[cR,aw,cQ,a1,Z0,Z1,frz,Z4,Z5]
   rfl
  have f1:=pE (iS ns none (some 16))
  have f2:bR [PyData.int (ns.getD 0 0+7)]=true:=rfl
  have ad:ao bI false (fW false (ae 0) eF (b7 (pC (.int 16)))) (cR (aw (ao bI false (aj du (af false (ae 0) (af false (pC (.int 0)) am))) (pC (.int 7))) cQ)) [.sh (.list (ns.map .int)),.no,.no]=some (.ow ((iS ns none (some 16)).map .int++[.int (ns.getD 0 0+7)]),[.sh (.list (ns.map .int)),.no,.no]):=by
   simp only[ao,cu,li,Z0,bI,look,Sl.val,fw,Z4,Z5,fl,f1,f2,Bool.or_true,Bool.and_self,hW]
  unfold b_
  rw[ad,List.map_append]
  rfl
 obtain⟨E,q⟩:=Ef (.list (ns.map .int)) (iS ns none (some 16)++[ns.getD 0 0+7]) .no .no rfl
 have fo:i7 (b_ (ao bI false (fW false (ae 0) eF (b7 (pC (.int 16)))) (cR (aw (ao bI false (aj du (af false (ae 0) (af false (pC (.int 0)) am))) (pC (.int 7))) cQ)))) hJ hM [.sh (.list (ns.map .int)),.no,.no]=some (E,.nx):=by
  unfold i7
  rw[it,Option.bind_some]
  exact q
 rw[g,sN,aK fo]
 rfl
end Nhk46
namespace Nhk46
open PySem L2 Nh PL
open PySem.W (nsIn codeIn keepIn fnOf)
theorem DN{xs:List Str}(h:∀a0,bindArgs fd ⟨[a0],[]⟩=pure (xs.zip [a0])):∀us:List Value,us.length=1→bindArgs fd ⟨us,[]⟩=pure (xs.zip us)
 |[a0],_=>h a0
theorem Jm{xs:List Str}(h:∀a0 a1,bindArgs fd ⟨[a0,a1],[]⟩=pure (xs.zip [a0,a1])):∀us:List Value,us.length=2→bindArgs fd ⟨us,[]⟩=pure (xs.zip us)
 |[a0,a1],_=>h a0 a1
abbrev HD(K:Frag)(n:Str)(st:Stmt):Prop:=∃(f:Addr) (oc:Value) (od an:Option Addr) (sl:Array (Option Value)) (kV dc pm cd ct:Value),nsIn K mainGlobals n=some (some (.ref f))∧K.lookup f=some ⟨oc,od,.func (fnOf n n (bY st) (a6 st) (ai st) .none kV dc pm an cd ct),sl⟩∧codeIn K cd n=true∧keepIn K (.ref f)=true
theorem HX{K:Frag}{n:Str}{f:Addr}{od:Option Addr}{sl:Array (Option Value)}{kV dc cd ct:Value}(a:nsIn K mainGlobals n=some (some (.ref f)))(l:K.lookup f=some ⟨oc,od,.func (fnOf n n (bY st) (a6 st) (ai st) .none kV dc pm an cd ct),sl⟩)(c:codeIn K cd n=true)(k:keepIn K (.ref f)=true):HD K n st:=⟨f,oc,od,an,sl,kV,dc,pm,cd,ct,a,l,c,k⟩
theorem Eg{K:Frag}{mg:Str→Option Value}(d:HD K x st)(X:K.In h)(G:h.Ns mainGlobals mg)(b:∀(kV doc pm:Value) (an:Option Addr) (cdv ct:Value) (us:List Value),us.length=ps.length→bindArgs (fnOf x x (bY st) (a6 st) (ai st) .none kV doc pm an cdv ct) ⟨us,[]⟩=pure (ps.zip us)):Def K mg x st ps:=by
 obtain⟨f,oc,od,an,sl,kV,dc,pm,cd,ct,a,l,c,k⟩:=d
 exact EZ X G a l c k b
theorem o_{K:Frag}{mg:Str→Option Value}{p0:Str}(X:K.In h)(G:h.Ns mainGlobals mg)(d:HD K x st)(b:∀(kV doc pm:Value) (an:Option Addr) (cdv ct a0:Value),bindArgs (fnOf x x (bY st) (a6 st) (ai st) .none kV doc pm an cdv ct) ⟨[a0],[]⟩=pure ([p0].zip [a0]):=by exact fun _ _ _ _ _ _ _=>rfl):Def K mg x st [p0]:=Eg d X G fun a b' c d e f us hl=>DN (b a b' c d e f) us hl
theorem q9{K:Frag}{mg:Str→Option Value}{p0 p1:Str}(X:K.In h)(G:h.Ns mainGlobals mg)(d:HD K x st)(b:∀(kV doc pm:Value) (an:Option Addr) (cdv ct a0 a1:Value),bindArgs (fnOf x x (bY st) (a6 st) (ai st) .none kV doc pm an cdv ct) ⟨[a0,a1],[]⟩=pure ([p0,p1].zip [a0,a1]):=by exact fun _ _ _ _ _ _ _ _=>rfl):Def K mg x st [p0,p1]:=Eg d X G fun a b' c d e f us hl=>Jm (b a b' c d e f) us hl
theorem Go{l:OpenLaw} {w:World} {K:Frag}  {mg:Str→Option Value} {fa z0 z1 z2 z3:Addr} (X:K.In h) (G:h.Ns mainGlobals mg) (hfa:mg "law"=some (.ref fa)) (B:Bn mg)
  {z4 z5 z6 z7 z8 z9 za zb:Option Addr} {zc zd ze zf:Array (Option Value)} {zg zh zi zj zk zl zm zn zo zp zq zr zs zt zu zv zw zx zy zz:Value}
  {y0 y1 y2 y3:Addr} (T:gC K pf [some y0,some y1,some y2,some y3])
  (y4:HD K "is_nail" ma)
  (y5:HD K "is_whole" kE)
  (y6:HD K "set_of" oG)
  (y7:HD K "bits_of" md)
  {y8:Addr} (y9:nsIn K mainGlobals "in_told_order"=some (some (.ref z0))) (ya:K.lookup z0=some ⟨zg,z4,.func (fnOf "in_told_order" "in_told_order" (bY cq) (a6 cq) (ai cq) .none zh zi zj z8 (.ref y8) zk),zc⟩) (yb:codeIn K (.ref y8) "in_told_order"=true) (yc:keepIn K (.ref z0)=true)
  (yd:codeHdIn K y8 y0=true) (ye:hZ K y0=some (("in_told_order":Str)++".<locals>."++"<lambda>"))
  (yf:HD K "has_part_among" fg)
  (yg:HD K "meets_each" iA)
  (yh:HD K "least_of" kF)
  (yi:HD K "all_sets" kG)
  (yj:HD K "check_many" iB)
  (yk:HD K "nails_among" gO)
  (yl:HD K "least_sets" iC)
  (ym:HD K "meeting_sets" gy)
  (yn:HD K "least_or_no_rule" d_)
  (yo:HD K "breaks" oH)
  (yp:HD K "both_rules" iD)
  (yq:HD K "either_rule" gP)
  (yr:HD K "turned_rule" gQ)
  (ys:HD K "at_least" kH)
  (yt:HD K "read_rule" jv)
  (yu:HD K "_law_at" oI)
  (yv:HD K "_law_nails" jw)
  (yw:HD K "_law_kinds" jx)
  (yx:HD K "_law_refused" gR)
  (yy:HD K "_law_sign" kI)
  (yz:HD K "_law_no_rule" gS)
  (x0:HD K "_law_no_nails" gz)
  (x1:HD K "_law_no_number" fR)
  {x2:Addr} (x3:nsIn K mainGlobals "_law_two_refused"=some (some (.ref z1))) (x4:K.lookup z1=some ⟨zl,z5,.func (fnOf "_law_two_refused" "_law_two_refused" (bY bS) (a6 bS) (ai bS) .none zm zn zo z9 (.ref x2) zp),zd⟩) (x5:codeIn K (.ref x2) "_law_two_refused"=true) (x6:keepIn K (.ref z1)=true)
  (x7:codeHdIn K x2 y1=true) (x8:hZ K y1=some (("_law_two_refused":Str)++".<locals>."++"<lambda>"))
  {x9:Addr} (xa:nsIn K mainGlobals "_law_at_least_refused"=some (some (.ref z2))) (xb:K.lookup z2=some ⟨zq,z6,.func (fnOf "_law_at_least_refused" "_law_at_least_refused" (bY a8) (a6 a8) (ai a8) .none zr zs zt za (.ref x9) zu),ze⟩) (xc:codeIn K (.ref x9) "_law_at_least_refused"=true) (xd:keepIn K (.ref z2)=true)
  (xe:codeHdIn K x9 y2=true) (xf:hZ K y2=some (("_law_at_least_refused":Str)++".<locals>."++"<lambda>"))
  {xg:Addr} (xh:nsIn K mainGlobals "law"=some (some (.ref z3))) (xi:K.lookup z3=some ⟨zv,z7,.func (fnOf "law" "law" (bY lH) (a6 lH) (ai lH) .none zw zx zy zb (.ref xg) zz),zf⟩) (xj:codeIn K (.ref xg) "law"=true) (xk:keepIn K (.ref z3)=true)
  (xl:codeHdIn K xg y3=true) (xm:hZ K y3=some (("law":Str)++".<locals>."++"<lambda>"))
  {xn:Tok} (xo:nsIn K mainGlobals "LETTERS"=some (some (.str "abcdefghijklmnopqrstuvwxyz" xn)))
  {xp:Tok} (xq:nsIn K mainGlobals "MOST_NAILS"=some (some (.int 10 xp)))
  {xr xt xu xv xw xx xy xz v0 v1 v2:Addr}
  (v3:nsIn K mainGlobals "NoCord"=some (some (.ref xr)))
  (v4:nsIn K mainGlobals "NoNails"=some (some (.ref xt)))
  (v5:nsIn K mainGlobals "NoRule"=some (some (.ref xu)))
  (v6:nsIn K mainGlobals "NoText"=some (some (.ref xv)))
  (v7:nsIn K mainGlobals "NoMove"=some (some (.ref xw)))
  (v8:nsIn K mainGlobals "NoLine"=some (some (.ref xx)))
  (v9:nsIn K mainGlobals "NoName"=some (some (.ref xy)))
  (va:nsIn K mainGlobals "NoNumber"=some (some (.ref xz)))
  (vb:nsIn K mainGlobals "TooMany"=some (some (.ref v0)))
  (vc:nsIn K mainGlobals "TooLong"=some (some (.ref v1)))
  (vd:nsIn K mainGlobals "ValueError"=some none)
  (ve:nsIn K mainGlobals "HangError"=some (some (.ref v2)))
  (vf:excIn K xt Id "ValueError.__new__"=true)
  (vg:(clsIn K xt).isSome=true)
  (vh:findIn K (.ref xt) "__getattribute__"=some (some (.builtin "BaseException.__getattribute__")))
  (vi:findIn K (.ref xt) "__getattr__"=some none)
  (vj:findIn K (.ref xt) "__class__"=some (some (.builtin "object.__class__")))
  (vk:mroIn K xt (.type "BaseException")=some true)
  (vl:mroIn K xt (.type "object")=some true)
  (vm:kitOne K (.ref xt) (.ref xr)=some false)
  (vn:kitOne K (.ref xt) (.ref xt)=some true)
  (vo:kitOne K (.ref xt) (.ref xu)=some false)
  (vp:kitOne K (.ref xt) (.ref xv)=some false)
  (vq:kitOne K (.ref xt) (.ref xw)=some false)
  (vr:kitOne K (.ref xt) (.ref xx)=some false)
  (vt:kitOne K (.ref xt) (.ref xy)=some false)
  (vu:kitOne K (.ref xt) (.ref xz)=some false)
  (vv:kitOne K (.ref xt) (.ref v0)=some false)
  (vw:kitOne K (.ref xt) (.ref v1)=some false)
  (vx:kitOne K (.ref xt) (.type "ValueError")=some true)
  (vy:exmOne K (.ref xt) (.ref xt)=some true)
  (vz:exmOne K (.ref xt) (.ref v2)=some true)
  (u0:excIn K xu Id "ValueError.__new__"=true)
  (u1:(clsIn K xu).isSome=true)
  (u2:findIn K (.ref xu) "__getattribute__"=some (some (.builtin "BaseException.__getattribute__")))
  (u3:findIn K (.ref xu) "__getattr__"=some none)
  (u4:findIn K (.ref xu) "__class__"=some (some (.builtin "object.__class__")))
  (u5:mroIn K xu (.type "BaseException")=some true)
  (u6:mroIn K xu (.type "object")=some true)
  (u7:kitOne K (.ref xu) (.ref xr)=some false)
  (u8:kitOne K (.ref xu) (.ref xt)=some false)
  (u9:kitOne K (.ref xu) (.ref xu)=some true)
  (ua:kitOne K (.ref xu) (.ref xv)=some false)
  (ub:kitOne K (.ref xu) (.ref xw)=some false)
  (uc:kitOne K (.ref xu) (.ref xx)=some false)
  (ud:kitOne K (.ref xu) (.ref xy)=some false)
  (ue:kitOne K (.ref xu) (.ref xz)=some false)
  (uf:kitOne K (.ref xu) (.ref v0)=some false)
  (ug:kitOne K (.ref xu) (.ref v1)=some false)
  (uh:kitOne K (.ref xu) (.type "ValueError")=some true)
  (ui:exmOne K (.ref xu) (.ref v2)=some true)
  (uj:excIn K v0 Id "ValueError.__new__"=true)
  (uk:(clsIn K v0).isSome=true)
  (ul:findIn K (.ref v0) "__getattribute__"=some (some (.builtin "BaseException.__getattribute__")))
  (um:findIn K (.ref v0) "__getattr__"=some none)
  (un:findIn K (.ref v0) "__class__"=some (some (.builtin "object.__class__")))
  (uo:mroIn K v0 (.type "BaseException")=some true)
  (up:mroIn K v0 (.type "object")=some true)
  (uq:kitOne K (.ref v0) (.ref xr)=some false)
  (ur:kitOne K (.ref v0) (.ref xt)=some false)
  (ut:kitOne K (.ref v0) (.ref xu)=some false)
  (uu:kitOne K (.ref v0) (.ref xv)=some false)
  (uv:kitOne K (.ref v0) (.ref xw)=some false)
  (uw:kitOne K (.ref v0) (.ref xx)=some false)
  (ux:kitOne K (.ref v0) (.ref xy)=some false)
  (uy:kitOne K (.ref v0) (.ref xz)=some false)
  (uz:kitOne K (.ref v0) (.ref v0)=some true)
  (t0:kitOne K (.ref v0) (.ref v1)=some false)
  (t1:kitOne K (.ref v0) (.type "ValueError")=some true)
  (t2:exmOne K (.ref v0) (.ref v2)=some true):
  ∃fd:FuncData,(∀(s:Shared) (v:Value),BindsTo s fd ⟨[v],[]⟩ [("_law_script",v)])∧∀base:Heap,K.In base→base.Ns mainGlobals mg→FnOk l.prog w K mg base nz 9 fa fd ["_law_script"] (gY K kC):=by
 have e:=hfa.symm.trans (mg_of X G xh)
 cases e
 have F0:FunT K "law" lH fa _ xg y3:=⟨⟨_,_,_,_,_,_,_,_,rfl,xi,xj⟩,xl,xm⟩
 have t3:=mg_of X G xo
 have t4:=mg_of X G xq
 have t5:ExCls K xt:=⟨Zbf.mp vg,vh,vi,vj,vk,vl⟩
 have t6:ExCls K xu:=⟨Zbf.mp u1,u2,u3,u4,u5,u6⟩
 have t7:ExCls K v0:=⟨Zbf.mp uk,ul,um,un,uo,up⟩
 have XX:XF K mg:=⟨⟨xr,mg_of X G v3,(aL v4 t5 vm (aL v5 t6 u7 (aL vb t7 uq gm)))⟩,⟨xt,mg_of X G v4,(aL v4 t5 vn (aL v5 t6 u8 (aL vb t7 ur gm))),⟨v4,mg_of X G v4,vf,t5⟩⟩,⟨xu,mg_of X G v5,(aL v4 t5 vo (aL v5 t6 u9 (aL vb t7 ut gm))),⟨v5,mg_of X G v5,u0,t6⟩⟩,⟨xv,mg_of X G v6,(aL v4 t5 vp (aL v5 t6 ua (aL vb t7 uu gm)))⟩,⟨xw,mg_of X G v7,(aL v4 t5 vq (aL v5 t6 ub (aL vb t7 uv gm)))⟩,⟨xx,mg_of X G v8,(aL v4 t5 vr (aL v5 t6 uc (aL vb t7 uw gm)))⟩,⟨xy,mg_of X G v9,(aL v4 t5 vt (aL v5 t6 ud (aL vb t7 ux gm)))⟩,⟨xz,mg_of X G va,(aL v4 t5 vu (aL v5 t6 ue (aL vb t7 uy gm)))⟩,⟨v0,mg_of X G vb,(aL v4 t5 vv (aL v5 t6 uf (aL vb t7 uz gm))),⟨vb,mg_of X G vb,uj,t7⟩⟩,⟨v1,mg_of X G vc,(aL v4 t5 vw (aL v5 t6 ug (aL vb t7 t0 gm)))⟩,⟨mg_none_of X G vd,(aL v4 t5 vx (aL v5 t6 uh (aL vb t7 t1 gm)))⟩,⟨v2,mg_of X G ve,fun n hn D hD=>by
  simp only[Zai,List.not_mem_nil,or_false]at hn
  rcases hn with rfl |rfl |rfl
  ·rw[v4]at hD;cases hD;exact vz
  ·rw[v5]at hD;cases hD;exact ui
  ·rw[vb]at hD;cases hD;exact t2⟩,⟨xt,mg_of X G v4,fun n hn D hD=>by
  simp only[Zai,List.not_mem_nil,or_false]at hn
  rcases hn with rfl
  ·rw[v4]at hD;cases hD;exact vy⟩⟩
 have t8:DefT K mg "in_told_order" cq ["sets"] y8 y0:=⟨⟨z0,_,_,_,_,_,_,_,_,ya,yb,yc,mg_of X G y9,.all (fun us hl=>DN (fun _=>rfl) us hl)⟩,yd,ye⟩
 have t9:DefT K mg "_law_two_refused" bS ["_law_cell"] x2 y1:=⟨⟨z1,_,_,_,_,_,_,_,_,x4,x5,x6,mg_of X G x3,.all (fun us hl=>DN (fun _=>rfl) us hl)⟩,x7,x8⟩
 have ta:DefT K mg "_law_at_least_refused" a8 ["_law_cell"] x9 y2:=⟨⟨z2,_,_,_,_,_,_,_,_,xb,xc,xd,mg_of X G xa,.all (fun us hl=>DN (fun _=>rfl) us hl)⟩,xe,xf⟩
 refine⟨fnOf "law" "law" (bY lH) (a6 lH) (ai lH) .none zw zx zy zb (.ref xg) zz,fun s v=>.of_eq rfl,fun base _ _=>?_⟩
 exact F4 F0 ⟨B,o_ X G y4,o_ X G y5,o_ X G y6,o_ X G y7,⟨_,_,t8⟩,q9 X G yf,q9 X G yg,o_ X G yh,o_ X G yi,o_ X G yj,o_ X G yk,o_ X G yl,o_ X G ym,o_ X G yn,q9 X G yo,q9 X G yp,q9 X G yq,o_ X G yr,q9 X G ys,o_ X G yt,q9 X G yu,q9 X G yv,o_ X G yw,q9 X G yx,o_ X G yy,o_ X G yz,o_ X G x0,q9 X G x1,⟨_,_,t9⟩,⟨_,_,ta⟩,⟨_,t3⟩,⟨_,t4⟩,XX⟩
theorem Jo{y0 y1 y2 y3:Addr}{l:OpenLaw}{q:Program}{d:DefRec}{K:Params→Frag}(hn:l.most=some 63)(hdf:d.params.defaults=[])
  (T:∀w:World,gC (K w.params) pf [some y0,some y1,some y2,some y3]) (hY:∀(w:World) (h:Heap),YP w h→(K w.params).In h∧oj (K w.params) h [some y0,some y1,some y2,some y3])
  (F:∀(w:World) (mg:Str→Option Value) (fa:Addr) (h:Heap),gC (K w.params) pf [some y0,some y1,some y2,some y3]→(K w.params).In h→h.Ns mainGlobals mg→mg d.name=some (.ref fa)→
   ∃fd:FuncData,(∀(s:Shared) (u:Value),BindsTo s fd ⟨[u],[]⟩ [("_law_script",u)])∧∀base:Heap,(K w.params).In base→base.Ns mainGlobals mg→FnOk l.prog w (K w.params) mg base nz 9 fa fd ["_law_script"] (gY (K w.params) kC)):
  PySem.W.WalkO q loose XP YP l.row.toRowW d [] (fun f vs=>PySem.call f vs):=
 L2.AD (n:=63) (k:=9) (x:="_law_script") (CX:=fun _=>nz) (sp:=fun w=>gY (K w.params) kC) hn (by decide) hdf ⟨rfl,by decide,by decide⟩ (fun w h Y=>⟨(hY w h Y).1,Da (hY w h Y).1 (T w) (hY w h Y).2⟩) (fun w mg fa h=>F w mg fa h (T w)) (fun _ _ a ns hl hS=>Fr (Gn ns hl) hS) fun _ _ _ _ _ z=>z
end Nhk46
open PySem PySem.W PyProof.Rows
namespace PySem.W.Fast
def tw5318331616575997984:=0
def tw4925674601002679424:=0
def tw11108110995418031328:=0
def tw14532160104641541344:=0
def tw9252098370453227872:=0
def tw9105511185827037568:=0
def tw1670664764345223584:=0
def tw8658162801525269920:=0
def tw14469550326731444672:=0
def tw6676207459552899936:=0
def tw4372072548326926337:=0
def tw13566907343019067489:=0
def tw16241785045468519553:=0
def tw6353678823581100161:=0
def tw16768795568063049889:=0
def tw4582005217735379329:=0
def tw4076381215394322913:=0
def tw17880517843399850561:=0
def tw13340737233069514561:=0
def tw16796970043226802049:=0
def tw4567915681012622241:=0
def tw13643775847473787841:=0
def tw9926118154218877921:=0
def tw3485796827641522178:=0
def tw18188525009651668994:=0
def tw2447583301673327650:=0
def tw11889201226823013474:=0
def tw1655219532628260994:=0
def tw11246674098326020610:=0
def tw7011892780947262178:=0
def tw6559814851354062626:=0
def tw18346459451521116994:=0
def tw12800773223204591458:=0
def tw10212970456943296418:=0
def tw13217504585626442690:=0
def tw17804866194935564579:=0
def tw6001377844884737443:=0
def tw3319251592456674755:=0
def tw444801893462528483:=0
def tw13824025807537814019:=0
def tw7742719916992030371:=0
def tw14632451322648078275:=0
def tw15485586602261099588:=0
def tw4659910255794543748:=0
def tw9208471391607204004:=0
def tw4623714163850132772:=0
def tw1305232404751131012:=0
def tw10370971446990668452:=0
def tw15000872799566208708:=0
def tw6685964725245464260:=0
def tw16944342445931346692:=0
def tw6692393424911026309:=0
def tw4013715644343878821:=0
def tw17774048553866247493:=0
def tw6364811551706278277:=0
def tw8242663106479590853:=0
def tw3689103146116812261:=0
def tw4512416144185071333:=0
def tw4174348635642033029:=0
def tw4537455778235768773:=0
def tw16794950820600469542:=0
def tw2322104800639514790:=0
def tw15913570869760208262:=0
def tw10411388667060646:=0
def tw2333190044018785702:=0
def tw1507973462193510854:=0
def tw10590270092016260582:=0
def tw15698767010266947142:=0
def tw10873164491200232134:=0
def tw11582464234842313446:=0
def tw14560803035983204230:=0
def tw15521856372346684487:=0
def tw6477405857871180903:=0
def tw17473655920271448231:=0
def tw10815105272695074055:=0
def tw4305092718003812679:=0
def tw9040461699046149511:=0
def tw14440439181698770631:=0
def tw15243065424719334247:=0
def tw6813600822884783047:=0
def tw9149842113319598088:=0
def tw17209314052212955176:=0
def tw18428154183597282408:=0
def tw6784031055368879208:=0
def tw4453806904899154088:=0
def tw2660307138659095720:=0
def tw688835892378284232:=0
def tw4979517207520792904:=0
def tw8025565180227446088:=0
def tw10310535544175406440:=0
def tw16575556115825194440:=0
def tw9154988696827511240:=0
def tw17209061159435199080:=0
def tw6010293795674522280:=0
def tw17794633833854507816:=0
def tw885084003527899944:=0
def tw15803700138661485384:=0
def tw986370087594923912:=0
def tw880082743308018568:=0
def tw18129663277671217032:=0
def tw15450478632843023336:=0
def tw15370455640508857385:=0
def tw7059216081640341737:=0
def tw14684198901386741001:=0
def tw12104737247894460745:=0
def tw16078826924358279625:=0
def tw15697325063439105513:=0
def tw18019197437707879945:=0
def tw10710496974017237609:=0
def tw17279109488808006281:=0
def tw9171339304972181225:=0
def tw9534188723833751433:=0
def tw14310778534759175113:=0
def tw4169384255629898858:=0
def tw4300249008586766442:=0
def tw16471276779944140970:=0
def tw2704741303866061290:=0
def tw15496133549384775242:=0
def tw7987519965505059498:=0
def tw3381154942583551818:=0
def tw11566545945354550090:=0
def tw13292994378285174891:=0
def tw6588820288321760363:=0
def tw18436292517138666667:=0
def tw7164987659049237963:=0
def tw7721562092444213739:=0
def tw4633848887802566155:=0
def tw8296781324914532939:=0
def tw895260184617273067:=0
def tw14160712498676201291:=0
def tw3907063880793050091:=0
def tw12029400146016706924:=0
def tw12237667338303801708:=0
def tw12525531659029978732:=0
def tw6882551933560426188:=0
def tw8175333524556151692:=0
def tw567192127265471533:=0
def tw18197873212469335277:=0
def tw15414463919678631181:=0
def tw2395969818849186093:=0
def tw17115945480271989133:=0
def tw10806555550639864205:=0
def tw8387373012732851597:=0
def tw10790287296622329261:=0
def tw111971830268381773:=0
def tw116987934688197517:=0
def tw13668986661734476749:=0
def tw4164567422651228238:=0
def tw18345048351858633934:=0
def tw13612947558463924526:=0
def tw5080367519155474798:=0
def tw7622653648611243470:=0
def tw16004939662652953070:=0
def tw10867835591741268462:=0
def tw4206243639636806350:=0
def tw14646930142568405806:=0
def tw2224010155800071982:=0
def tw3847945447365657582:=0
def tw17329595726191978607:=0
def tw7884055917546344687:=0
def tw10585903017767169295:=0
def tw1367581145536463183:=0
def tw3325720414075315599:=0
def tw525064879799931279:=0
def tw5644604481976329999:=0
def tw8516054429408215887:=0
def tw7589732259205610383:=0
def tw9655303208956515344:=0
def tw1506004357427693680:=0
def tw10558886891595660528:=0
def tw12960602421904909712:=0
def tw3312504971543995792:=0
def tw13922235782160421296:=0
def tw1554196551030381008:=0
def tw17581444459876764144:=0
def tw16297600405621619280:=0
def tw12239329002571839280:=0
def tw376296389036471152:=0
def tw4510696792629521264:=0
def tw10638787553992072080:=0
def tw17613414912020320176:=0
def tw9642668870393826353:=0
def tw8292569258761730129:=0
def tw2572443699773810833:=0
def tw6908737888166745297:=0
def tw17558332744335672529:=0
def tw12153576566179239217:=0
def tw2038997608015657265:=0
def tw7530574170196705617:=0
def tw3608307304811577745:=0
def tw16839591663936663985:=0
def tw16893836461391846865:=0
def tw9559743074518225553:=0
def tw8575188850567038673:=0
def tw4378054784338175729:=0
def tw2467499421988774833:=0
def tw2474259559921512401:=0
def tw8988326666826482738:=0
def tw7047104873520082130:=0
def tw16904763821484690802:=0
def tw18174612949389731250:=0
def tw11402571663091996306:=0
def tw14758082711995695858:=0
def tw9662483069790658675:=0
def tw1211205435458209043:=0
def tw16646624149157642515:=0
def tw435746686466194739:=0
def tw10409411826268841619:=0
def tw7226152358510286643:=0
def tw1210757898817450835:=0
def tw11815621426994448307:=0
def tw11424479452658137043:=0
def tw14620381534840304756:=0
def tw7484317381400376884:=0
def tw9501633831202602612:=0
def tw9124364941085096692:=0
def tw1005279440364775445:=0
def tw15874366701752600597:=0
def tw1560927295584455797:=0
def tw12403126022872322165:=0
def tw454683479431623925:=0
def tw12665932100177683829:=0
def tw15381823638343174549:=0
def tw4963448727151786453:=0
def tw14073292896947398229:=0
def tw6762166145780301749:=0
def tw18025430307988790294:=0
def tw1104394663887717430:=0
def tw12570790014362532918:=0
def tw9232134287878618198:=0
def tw16591743835595005110:=0
def tw15609617836796911830:=0
def tw11549751518581418262:=0
def tw10342724748092027222:=0
def tw17787666979669836150:=0
def tw16362713675391993238:=0
def tw8929027750593127862:=0
def tw16258618221955759574:=0
def tw7611433564357062102:=0
def tw17762087832240911894:=0
def tw10354139085365514838:=0
def tw17336308922131328790:=0
def tw14927416751603615574:=0
def tw15054211809645499286:=0
def tw17187272742013681558:=0
def tw8333305823105271702:=0
def tw3304420431140189142:=0
def tw9614267778133982295:=0
def tw2602691030602048727:=0
def tw16619095107166229783:=0
def tw13773806891941000503:=0
def tw243287785589938519:=0
def tw2059806846850109911:=0
def tw17852173133437724151:=0
def tw2436478353914367479:=0
def tw2081755593820478103:=0
def tw1436375756004669175:=0
def tw15706266408770709431:=0
def tw14765822157728309207:=0
def tw6614019219435225368:=0
def tw4014593486040789304:=0
def tw3266253652480595320:=0
def tw9646206046143945080:=0
def tw16343888119936315864:=0
def tw3190605591117170200:=0
def tw7525725923257496120:=0
def tw15489326375991420568:=0
def tw14555880714742888312:=0
def tw2237000779514849240:=0
def tw13749230368535069721:=0
def tw10465431299550820537:=0
def tw15838134065758166329:=0
def tw10430017908858398009:=0
def tw5383667369976953401:=0
def tw6402871507075483193:=0
def tw7592412052639320665:=0
def tw13106002062764572377:=0
def tw14620330154190872377:=0
def tw10034912991187409721:=0
def tw6901014070430195577:=0
def tw1568484815060929497:=0
def tw6819008007397750842:=0
def tw9469226948602609850:=0
def tw5245288892839898298:=0
def tw14849742445013436666:=0
def tw15014930423049027930:=0
def tw17989098116436921818:=0
def tw15595388438015737306:=0
def tw17939067353180154426:=0
def tw12325370116829793882:=0
def tw13842209210210359930:=0
def tw3367007797719101050:=0
def tw4102888135012290202:=0
def tw7315418892125985498:=0
def tw4006750873170161434:=0
def tw1487449747990717467:=0
def tw16571615066715128923:=0
def tw7067415695299605627:=0
def tw8566645268786665819:=0
def tw13418351074918452635:=0
def tw6183312419149057531:=0
def tw18281242466753144347:=0
def tw15227242268715958907:=0
def tw3842519645403607739:=0
def tw6006992059979630299:=0
def tw3813248928200942395:=0
def tw5957744706521683835:=0
def tw5298770772484738971:=0
def tw4145680768252446619:=0
def tw8120430442422479803:=0
def tw5306014462185480187:=0
def tw10818767501854234684:=0
def tw8758766197180195964:=0
def tw2629664346713443644:=0
def tw13152447134077902172:=0
def tw3278235262547853724:=0
def tw11520125321474181724:=0
def tw15461715402980857436:=0
def tw8758753604315275868:=0
def tw5114043923064071804:=0
def tw17890216821799197308:=0
def tw3560324485976338108:=0
def tw17118012533886813980:=0
def tw6060507347691487004:=0
def tw6870835136859906908:=0
def tw7297226818099385212:=0
def tw1116280088527370204:=0
def tw573551241345246172:=0
def tw4377869244979231773:=0
def tw811893728094661693:=0
def tw12974904165573168285:=0
def tw2457630546168110301:=0
def tw9418821276184571165:=0
def tw3673921856283418973:=0
def tw11798459503815429501:=0
def tw1819612458502707613:=0
def tw17751163237150458301:=0
def tw9157958427110312637:=0
def tw15736402322494309085:=0
def tw4176642338534206301:=0
def tw5749528499374483421:=0
def tw4610600593472811005:=0
def tw311362045603314685:=0
def tw907820989449822270:=0
def tw9255571422759029886:=0
def tw8203651291921904862:=0
def tw6063115451582378590:=0
def tw5803192768799597182:=0
def tw15450476843718898334:=0
def tw6090818194977828702:=0
def tw3320113966076229566:=0
def tw10865145932491008990:=0
def tw3057413357486404639:=0
def tw7060979374003039359:=0
def tw6211975461075107007:=0
def tw3077022556626348575:=0
def tw13721352435106683519:=0
def tw8438758794118355583:=0
def tw7353385498026523519:=0
def tw17575756694436693977:=0
end PySem.W.Fast
set_option maxRecDepth 100000 in
set_option maxHeartbeats 0 in
theorem PySem.Challenge.cw_nailhang_k46_rules_refused_holds : PySem.Challenge.rw_nailhang_k46_rules_refused.Holds := by
 w_on;o_law;k_head;(case hw=>w_witness2)
 k_fill
 refine' Nhk46.Jo (l:=PySem.Challenge.rw_nailhang_k46_rules_refused) rfl rfl ?T (fun w h Y=>⟨PySem.W.km_in_of Y,?Y⟩) ?F
 case T=>
  intro w
  refine' ⟨PL.lz ?tb ?tc ?td ?te ?tf ?tg,PL.lz ?th ?ti ?tj ?tk ?tl ?tm,PL.lz ?tn ?to ?tq ?tr ?ts ?tt,PL.lz ?tu ?tv ?tw ?tx ?ty ?tz,trivial⟩
  (case tb=>k_is)
  (case tc=>k_is)
  (case td=>exact rfl)
  (case te=>k_is)
  (case tf=>exact rfl)
  (case tg=>kernel_rfl)
  (case th=>k_is)
  (case ti=>k_is)
  (case tj=>exact rfl)
  (case tk=>k_is)
  (case tl=>exact rfl)
  (case tm=>kernel_rfl)
  (case tn=>k_is)
  (case to=>k_is)
  (case tq=>exact rfl)
  (case tr=>k_is)
  (case ts=>exact rfl)
  (case tt=>kernel_rfl)
  (case tu=>k_is)
  (case tv=>k_is)
  (case tw=>exact rfl)
  (case tx=>k_is)
  (case ty=>exact rfl)
  (case tz=>kernel_rfl)
 case Y=>
  refine' ⟨⟨PySem.W.km_tabs_of Y _ ?q0,?q1⟩,⟨⟨PySem.W.km_tabs_of Y _ ?q2,?q3⟩,⟨⟨PySem.W.km_tabs_of Y _ ?q4,?q5⟩,⟨⟨PySem.W.km_tabs_of Y _ ?q6,?q7⟩,trivial⟩⟩⟩⟩
  (case q0=>k_mem)
  (case q1=>kernel_rfl)
  (case q2=>k_mem)
  (case q3=>kernel_rfl)
  (case q4=>k_mem)
  (case q5=>kernel_rfl)
  (case q6=>k_mem)
  (case q7=>kernel_rfl)
 case F=>
  intro w mg fa h T KX G hmg
  refine' Nhk46.Go KX G hmg (PL.Hc KX G ?_ ?_ ?_ ?_ ?_ ?_ ?_ ?_ ?_ ?_ ?_ ?_ ?_ ?_ ?_ ?_ ?_ ?_ ?_ ?_) T ?_ ?_ ?_ ?_ ?y9 ?ya ?yb ?yc ?yd ?ye ?_ ?_ ?_ ?_ ?_ ?_ ?_ ?_ ?_ ?_ ?_ ?_ ?_ ?_ ?_ ?_ ?_ ?_ ?_ ?_ ?_ ?_ ?_ ?x3 ?x4 ?x5 ?x6 ?x7 ?x8 ?xa ?xb ?xc ?xd ?xe ?xf ?xh ?xi ?xj ?xk ?xl ?xm ?xo ?xq ?v3 ?v4 ?v5 ?v6 ?v7 ?v8 ?v9 ?va ?vb ?vc ?vd ?ve ?vf ?vg ?vh ?vi ?vj ?vk ?vl ?vm ?vn ?vo ?vp ?vq ?vr ?vt ?vu ?vv ?vw ?vx ?vy ?vz ?u0 ?u1 ?u2 ?u3 ?u4 ?u5 ?u6 ?u7 ?u8 ?u9 ?ua ?ub ?uc ?ud ?ue ?uf ?ug ?uh ?ui ?uj ?uk ?ul ?um ?un ?uo ?up ?uq ?ur ?ut ?uu ?uv ?uw ?ux ?uy ?uz ?t0 ?t1 ?t2
  (case y9=>k_is)
  (case ya=>k_is)
  (case yb=>k_is)
  (case yc=>k_is)
  (case yd=>kernel_rfl)
  (case ye=>exact(PL.jX T).trans (by kernel_rfl))
  (case x3=>k_is)
  (case x4=>k_is)
  (case x5=>k_is)
  (case x6=>k_is)
  (case x7=>kernel_rfl)
  (case x8=>exact(PL.jX T).trans (by kernel_rfl))
  (case xa=>k_is)
  (case xb=>k_is)
  (case xc=>k_is)
  (case xd=>k_is)
  (case xe=>kernel_rfl)
  (case xf=>exact(PL.jX T).trans (by kernel_rfl))
  (case xh=>k_is)
  (case xi=>k_is)
  (case xj=>k_is)
  (case xk=>k_is)
  (case xl=>kernel_rfl)
  (case xm=>exact(PL.jX T).trans (by kernel_rfl))
  (case xo=>k_is)
  (case xq=>k_is)
  (case v3=>k_is)
  (case v4=>k_is)
  (case v5=>k_is)
  (case v6=>k_is)
  (case v7=>k_is)
  (case v8=>k_is)
  (case v9=>k_is)
  (case va=>k_is)
  (case vb=>k_is)
  (case vc=>k_is)
  (case vd=>k_is)
  (case ve=>k_is)
  (case vf=>k_exc)
  (case vg=>kernel_rfl)
  (case vh=>k_is)
  (case vi=>k_is)
  (case vj=>k_is)
  (case vk=>k_is)
  (case vl=>k_is)
  (case vm=>kit_is)
  (case vn=>kit_is)
  (case vo=>kit_is)
  (case vp=>kit_is)
  (case vq=>kit_is)
  (case vr=>kit_is)
  (case vt=>kit_is)
  (case vu=>kit_is)
  (case vv=>kit_is)
  (case vw=>kit_is)
  (case vx=>kit_is)
  (case vy=>kts_exm)
  (case vz=>kts_exm)
  (case u0=>k_exc)
  (case u1=>kernel_rfl)
  (case u2=>k_is)
  (case u3=>k_is)
  (case u4=>k_is)
  (case u5=>k_is)
  (case u6=>k_is)
  (case u7=>kit_is)
  (case u8=>kit_is)
  (case u9=>kit_is)
  (case ua=>kit_is)
  (case ub=>kit_is)
  (case uc=>kit_is)
  (case ud=>kit_is)
  (case ue=>kit_is)
  (case uf=>kit_is)
  (case ug=>kit_is)
  (case uh=>kit_is)
  (case ui=>kts_exm)
  (case uj=>k_exc)
  (case uk=>kernel_rfl)
  (case ul=>k_is)
  (case um=>k_is)
  (case un=>k_is)
  (case uo=>k_is)
  (case up=>k_is)
  (case uq=>kit_is)
  (case ur=>kit_is)
  (case ut=>kit_is)
  (case uu=>kit_is)
  (case uv=>kit_is)
  (case uw=>kit_is)
  (case ux=>kit_is)
  (case uy=>kit_is)
  (case uz=>kit_is)
  (case t0=>kit_is)
  (case t1=>kit_is)
  (case t2=>kts_exm)
  all_goals first |(refine' Nhk46.HX ?_ ?_ ?_ ?_ <;> first |k_is |skip) |k_is
